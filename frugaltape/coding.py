"""The code of a program: instructions at addresses."""


def block_code(block, start):
    """Return the list of the instructions of a block whose code begins at an address."""
    code = []
    for statement in block:
        code.extend(statement_code(statement, start + len(code)))
    return code


def statement_code(statement, start):
    """Return the list of the instructions of a statement whose code begins at an address."""
    word = statement[0]
    if word == "if":
        return if_code(statement, start)
    if word == "while":
        return while_code(statement, start)
    if word == "repeat":
        return repeat_code(statement, start)
    return [statement]


def if_code(statement, start):
    """Return the instructions of an `if`."""
    _, expression, first, second = statement
    first_code = block_code(first, start + 1)
    second_start = start + 1 + len(first_code) + 1
    second_code = block_code(second, second_start)
    behind = second_start + len(second_code) + 1
    test = ("test", expression, second_start)
    return [test, *first_code, ("go", behind, 1), *second_code, ("go", behind, 0)]


def while_code(statement, start):
    """Return the instructions of a `while`."""
    _, expression, block = statement
    head = start + 1
    code = block_code(block, head + 1)
    behind = head + 1 + len(code) + 1
    return [("go", head, 0), ("test", expression, behind), *code, ("go", head, 1)]


def repeat_code(statement, start):
    """Return the instructions of a `repeat`."""
    _, expression, block = statement
    turn = start + 1
    code = block_code(block, turn + 1)
    behind = turn + 1 + len(code) + 1
    return [("begin", expression), ("turn", behind), *code, ("again", turn)]


def program_code(procedures, main):
    """Return the code of a program, a tuple, and a dict of the addresses where its procedures begin."""
    code = block_code(main, 0)
    code.append(("stop",))
    entries = {}
    for name, block in procedures:
        entries[name] = len(code)
        code.extend(block_code(block, len(code)))
        code.append(("return",))
    return tuple(code), entries
