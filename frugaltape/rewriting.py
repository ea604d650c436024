"""Rewriting: programs with the same results that may record less."""

from frugaltape.checks import check_program
from frugaltape.coding import block_code
from frugaltape.errors import Dependent, InvalidAddress, InvalidProgram, InvalidSteps
from frugaltape.instructions import expression_names, written_names
from frugaltape.moves import Moves
from frugaltape.sinking import known_spaces, paying_addresses, savings, sunk_spaces
from frugaltape.sites import Site


def are_independent(one, other):
    """Tell whether two `set` statements can be exchanged."""
    _, name, value = one
    _, other_name, other_value = other
    if name == other_name or (value == ("read",) and other_value == ("read",)):
        return False
    return name not in expression_names(other_value) and other_name not in expression_names(value)


def exchanged(program, address):
    """Return the program where the `set` at an address and the one directly behind it are exchanged."""
    site = Site(program, address, "set")
    pair = site.block[site.position:site.position + 2]
    if len(pair) < 2 or pair[1][0] != "set":
        raise InvalidAddress(address)
    if not are_independent(pair[0], pair[1]):
        raise Dependent(address)
    return site.replaced(site.position, site.position + 2, pair[::-1])


def sunk(program, address):
    """Return the program where the `set` at an address, behind an `if`, is put at the end of both of its blocks."""
    site = Site(program, address, "set")
    if site.position == 0 or site.block[site.position - 1][0] != "if":
        raise InvalidAddress(address)
    _, expression, first, second = site.block[site.position - 1]
    statement = site.block[site.position]
    changed = ("if", expression, (*first, statement), (*second, statement))
    return site.replaced(site.position - 1, site.position + 1, [changed])


def lifted(program, address):
    """Return the program where the `set` at the end of both blocks of the `if` at an address is put behind it."""
    site = Site(program, address, "test")
    word, expression, *blocks = site.block[site.position]
    if word != "if" or not blocks[0] or blocks[0][-1][0] != "set" or blocks[0][-1:] != blocks[1][-1:]:
        raise InvalidAddress(address)
    changed = ("if", expression, blocks[0][:-1], blocks[1][:-1])
    return site.replaced(site.position, site.position + 1, [changed, blocks[0][-1]])


def counted_name(condition):
    """Return the variable that a condition compares with a sum without it, or None for other conditions."""
    if condition[0] != "less" or condition[2][3] != 1:
        return None
    _, one, other = condition
    names = expression_names(one)
    if len(names) != 1 or one != ("sum", 0, ((1, names[0]),), 1) or names[0] in expression_names(other):
        return None
    return names[0]


def is_counting(block, name, others):
    """Tell whether a block adds 1 to a variable at its end, before it neither writes it nor others, and has no call."""
    if block[-1:] != (("set", name, ("sum", 1, ((1, name),), 1)),):
        return False
    code = block_code(block[:-1], 0)
    written = [one for instruction in code for one in written_names(instruction)]
    calls = [instruction for instruction in code if instruction[0] == "call"]
    return not calls and not any([one in written for one in [name, *others]])


def without_name(value, name):
    """Return a sum, with the divisor 1 and without a variable, minus this variable."""
    _, constant, terms, _ = value
    named = sorted([(other, factor) for factor, other in (*terms, (-1, name))])
    return ("sum", constant, tuple([(factor, other) for other, factor in named]), 1)


def counted(program, address):
    """Return the program where the `while` with the test at an address, which counts, is a `repeat`."""
    site = Site(program, address, "test")
    word, condition, *blocks = site.block[site.position]
    name = counted_name(condition)
    if word != "while" or name is None or not is_counting(blocks[0], name, expression_names(condition[2])):
        raise InvalidAddress(address)
    changed = ("repeat", without_name(condition[2], name), blocks[0])
    return site.replaced(site.position, site.position + 1, [changed])


def saving(program, address):
    """Return how many entries less the program records, by way 0 and by way 1, if the `set` at an address is sunk."""
    sunk(program, address)
    return savings(Moves(program), known_spaces(program), address)


def paying(program):
    """Return the ascending tuple of the addresses where sinking saves something."""
    return tuple(paying_addresses(program, known_spaces(program)))


def thrifty(program):
    """Return the program that is reached by sinking at the first paying address until there is none."""
    spaces = known_spaces(program)
    found = paying_addresses(program, spaces)
    while found:
        spaces = sunk_spaces(program, spaces, found[0])
        program = sunk(program, found[0])
        found = paying_addresses(program, spaces)
    return program


ACTIONS = {"exchange": exchanged, "sink": sunk, "lift": lifted, "count": counted}


def is_step(candidate):
    """Tell whether any object is a pair of a word of a rewriting step and something else."""
    return isinstance(candidate, tuple) and len(candidate) == 2 and candidate[0] in list(ACTIONS)


def rewritten(program, steps):
    """Return the program after rewriting steps, which are pairs of a word and an address."""
    check_program(program)
    if not isinstance(steps, (list, tuple)):
        raise InvalidSteps(None)
    for position, step in enumerate(steps):
        if not is_step(step):
            raise InvalidSteps(position)
        action = ACTIONS[step[0]]
        try:
            program = action(program, step[1])
        except (InvalidAddress, Dependent, InvalidProgram):
            raise InvalidSteps(position) from None
    return program
