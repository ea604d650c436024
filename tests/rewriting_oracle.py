"""Which rewriting steps are possible in a program, and what they make of it, found by going through its blocks."""

from frugaltape.programs import Program
from oracles import entries_of, length

def sums_of(expression):
    if expression[0] == "read":
        return []
    return [expression] if expression[0] == "sum" else list(expression[1:])


def read_by(expression):
    return {name for value in sums_of(expression) for _, name in value[2]}


def written_by(block):
    """The variables that a block writes, with None for a call."""
    found = set()
    for statement in block:
        word = statement[0]
        if word in ("set", "swap"):
            found.update(part for part in statement[1:] if isinstance(part, str))
        elif word == "call":
            found.add(None)
        elif word != "print":
            for inner in statement[2:]:
                found |= written_by(inner)
    return found


def blocks_of(block, address, rebuild):
    """All blocks in a block: each with the addresses of its statements, and what makes a program of another one."""
    addresses = []
    start = address
    for at, statement in enumerate(block):
        addresses.append(address)
        if statement[0] in ("if", "while", "repeat"):
            inner = address + (1 if statement[0] == "if" else 2)
            for place in range(2, len(statement)):
                def put(other, at=at, statement=statement, place=place):
                    changed = statement[:place] + (other,) + statement[place + 1:]
                    return rebuild(block[:at] + (changed,) + block[at + 1:])
                yield from blocks_of(statement[place], inner, put)
                inner += length(statement[place]) + 1
        address += length((statement,))
    yield block, addresses, rebuild
    assert start + length(block) == address


def all_blocks(program):
    def with_main(main):
        return Program(program.given, program.variables, program.procedures, main)
    yield from blocks_of(program.main, 0, with_main)
    for at, (name, block) in enumerate(program.procedures):
        def with_procedure(other, at=at, name=name):
            procedures = program.procedures[:at] + ((name, other),) + program.procedures[at + 1:]
            return Program(program.given, program.variables, procedures, program.main)
        yield from blocks_of(block, entries_of(program)[name], with_procedure)


def is_dependent(one, other):
    reading = one[2] == other[2] == ("read",)
    return reading or one[1] == other[1] or one[1] in read_by(other[2]) or other[1] in read_by(one[2])


def counted_statement(statement):
    """The `repeat` in place of a `while` that counts, or None."""
    _, condition, block = statement
    if condition[0] != "less" or not block:
        return None
    _, one, other = condition
    for name in read_by(one):
        last = ("set", name, ("sum", 1, ((1, name),), 1))
        if one == ("sum", 0, ((1, name),), 1) and other[3] == 1 and name not in read_by(other) and block[-1] == last:
            if not written_by(block[:-1]) & ({name, None} | read_by(other)):
                terms = sorted([*other[2], (-1, name)], key=lambda term: term[1])
                return ("repeat", ("sum", other[1], tuple(terms), 1), block)
    return None


def steps_of(program):
    """All steps that can be performed: a dict from their words and addresses to functions that make the program."""
    found = {}
    for block, addresses, rebuild in all_blocks(program):
        for at, (statement, address) in enumerate(zip(block, addresses)):
            before = block[at - 1] if at else ("nothing",)
            behind = block[at + 1] if at + 1 < len(block) else ("nothing",)

            def put(first, last, *statements, block=block, rebuild=rebuild):
                return lambda: rebuild(block[:first] + statements + block[last:])
            if statement[0] == "set" and behind[0] == "set":
                made = put(at, at + 2, behind, statement)
                found["exchange", address] = None if is_dependent(statement, behind) else made
            if statement[0] == "set" and before[0] == "if":
                changed = (*before[:2], before[2] + (statement,), before[3] + (statement,))
                found["sink", address] = put(at - 1, at + 1, changed)
            if statement[0] == "if":
                first, second = statement[2:]
                if first and second and first[-1] == second[-1] and first[-1][0] == "set":
                    changed = (*statement[:2], first[:-1], second[:-1])
                    found["lift", address] = put(at, at + 1, changed, first[-1])
            if statement[0] == "while":
                changed = counted_statement(statement)
                if changed is not None:
                    found["count", address + 1] = put(at, at + 1, changed)
    return found
