"""Rates: how much the runs of a program record per step in the long run."""

from frugaltape.analysis import Analysis
from frugaltape.checks import are_integers, check_program
from frugaltape.cycles import greatest_quotient, heights_above, lowest_terms, tight_cycle, weight
from frugaltape.errors import InvalidProgram
from frugaltape.guides import next_addresses
from frugaltape.moves import Moves
from frugaltape.paper_checking import is_tuple_of


def main_size(program):
    """Return the number of the addresses of `main`, with its `stop`."""
    return program.code.index(("stop",)) + 1


def step_entries(program, recording, one, other):
    """Return how many entries a step from an address to another one writes on the tape."""
    is_round = program.code[one][0] == "turn" and other == one + 1
    return int(one in recording and not is_round)


def edges(program):
    """Return the ascending tuple of the steps of free runs: address, next address and entries."""
    check_program(program)
    size = main_size(program)
    if any([instruction[0] == "call" for instruction in program.code[:size]]):
        raise InvalidProgram("calls")
    recording = Analysis(program).recording
    moves = Moves(program)
    # Without calls free runs reach all of `main`: both ways of tests and turns are open to them.
    steps = [(one, other) for one in range(size) for other in next_addresses(moves, one)]
    return tuple(sorted([(one, other, step_entries(program, recording, one, other)) for one, other in steps]))


def rate(program):
    """Return the greatest quotient of entries and steps of all cycles, in lowest terms."""
    graph = edges(program)
    found = greatest_quotient(main_size(program), graph)
    return (0, 1) if found is None else found


def rate_paper(program):
    """Return a rate paper."""
    graph = edges(program)
    size = main_size(program)
    found = greatest_quotient(size, graph)
    quotient = (0, 1) if found is None else found
    heights = heights_above(size, graph, quotient)
    cycle = () if found is None else tight_cycle(graph, quotient, heights)
    return quotient, cycle, tuple(heights)


def is_quotient(candidate):
    """Tell whether any object is a quotient in lowest terms that may be a rate."""
    if not are_integers(candidate) or len(candidate) != 2:
        return False
    entries, steps = candidate
    return entries >= 0 and steps >= 1 and lowest_terms(entries, steps) == candidate


def is_cycle(graph, quotient, candidate):
    """Tell whether any object is a cycle of a quotient."""
    if not are_integers(candidate) or len(set(candidate)) != len(candidate):
        return False
    if not candidate:
        return quotient == (0, 1)
    written = {(one, other): entries for one, other, entries in graph}
    steps = list(zip(candidate, (*candidate[1:], candidate[0])))
    if not all([step in written for step in steps]):
        return False
    return quotient[1] * sum([written[step] for step in steps]) == quotient[0] * len(steps)


def are_heights(graph, size, quotient, candidate):
    """Tell whether any object is as many heights that rise along each edge by its weight at least."""
    if not are_integers(candidate) or len(candidate) != size:
        return False
    return all([candidate[other] - candidate[one] >= weight(quotient, entries) for one, other, entries in graph])


def is_rate_paper(program, candidate):
    """Tell whether any object is a rate paper of a program."""
    graph = edges(program)
    if not is_tuple_of(candidate, 3):
        return False
    quotient, cycle, heights = candidate
    if not is_quotient(quotient) or not is_cycle(graph, quotient, cycle):
        return False
    return are_heights(graph, main_size(program), quotient, heights)
