"""What a machine knows of its program, beside the code."""

from frugaltape.analysis import Analysis
from frugaltape.moves import Moves
from frugaltape.quiet import quiet_loops


def next_addresses(moves, address):
    """Return a list of the addresses to which a step from an address may lead, but for a `call`."""
    word, *rest = moves.instructions[address]
    if word in ("stop", "call"):
        return []
    if word == "return":
        return [call + 1 for call in moves.callers[address]]
    if word in ("go", "again"):
        return [rest[0]]
    if word in ("test", "turn"):
        return [address + 1, rest[-1]]
    return [address + 1]


def previous_addresses(moves):
    """Return the list, for each address, of the addresses from which a step leads there, but for a `call`."""
    found = [[] for _ in moves.instructions]
    for address in range(len(moves.instructions)):
        for following in next_addresses(moves, address):
            found[following].append(address)
    return found


class Guide:
    """A program with its decisions, its quiet loops and the addresses before each address; it never changes."""

    def __init__(self, program):
        moves = Moves(program)
        self.source = program
        self.analysis = Analysis(program)
        self.decisions = tuple([self.analysis.decision(address) for address in range(len(program.code))])
        self.loops = quiet_loops(moves)
        self.before = previous_addresses(moves)
