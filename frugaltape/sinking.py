"""What is saved where a `set` behind an `if` is sunk into both of its blocks.

The spaces of a sunk program are known from those of the program: what free runs reach changes only around
the `set`. So a program is analysed once, however often something is sunk in it.
"""

from frugaltape.analysis import Analysis, moved_space
from frugaltape.deciding import joins
from frugaltape.moves import Moves
from frugaltape.programs import MAX_CODE


def known_spaces(program):
    """Return the list of the spaces of all addresses of a program."""
    analysis = Analysis(program)
    return [analysis.space(address) for address in range(len(program.code))]


def sinkable(code):
    """Return the list of the addresses of each `set` that stands directly behind an `if`."""
    # Only the last instruction of an `if`, and the first one of a `while`, lead to the next address this way.
    return [at for at in range(1, len(code)) if code[at][0] == "set" and code[at - 1] == ("go", at, 0)]


def join_entries(zero, one):
    """Return how many entries a join writes where its two ways come with the states of two spaces."""
    return int(any([vector[-1] != 0 for vector in (zero & one).basis]))


def narrowing(moves, address, before):
    """Return by how much the `set` at an address narrows a space.

    It writes so many entries where the states before it are those of the space, or one more if its expression
    is free.
    """
    return len(before) - len(moved_space(moves, address, before))


def savings(moves, spaces, address):
    """Return how many entries are saved on way 0 and on way 1 by sinking the `set` at an address."""
    ways = [spaces[at] for at in joins(moves.instructions)[address]]
    sunk = [moved_space(moves, address, space) for space in ways]
    before = join_entries(*ways) + narrowing(moves, address, spaces[address])
    after = join_entries(*sunk)
    zero, one = [before - narrowing(moves, address, space) - after if len(space) > 0 else 0 for space in ways]
    return zero, one


def paying_addresses(program, spaces):
    """Return the list of the addresses of each `set` that can be sunk and saves something."""
    if len(program.code) == MAX_CODE:
        return []
    moves = Moves(program)
    return [address for address in sinkable(program.code) if savings(moves, spaces, address) != (0, 0)]


def sunk_spaces(program, spaces, address):
    """Return the list of the spaces of all addresses of the program where the `set` at an address is sunk."""
    moves = Moves(program)
    zero, one = joins(program.code)[address]
    return [
        *spaces[:one + 1], moved_space(moves, address, spaces[one]),
        *spaces[one + 1:zero + 1], moved_space(moves, address, spaces[zero]),
        *spaces[address + 1:],
    ]
