"""Decisions: what must be recorded, and by which sums the rest is found again.

A pair is (o, n1, .., nk, m): the vector of a state after a step, behind m times the value o / m that the
step destroyed, or that tells the way of a join. A sum gives the value back if it does so for all pairs.
"""

from frugaltape.linear import dual_basis
from frugaltape.moves import is_free
from frugaltape.residues import spanned_basis

NEVER = ("never",)
RECORD = ("record",)


def joins(code):
    """Return a dict from the target of each join to the list of its two addresses, way 0 first."""
    found = {}
    for address, instruction in enumerate(code):
        if instruction[0] == "go":
            _, target, way = instruction
            if target not in found:
                found[target] = [None, None]
            found[target][way] = address
    return found


def destroying_choices(moves, address):
    """Return the choices of the moves to look at that destroy something, for a `set` or a `turn`."""
    if moves.instructions[address][0] == "turn":
        return (0,)
    return moves.choices(address)


def pair(moves, address, vector, choice):
    """Return the pair of the move with a choice of a `set` or a `turn`, from an open vector."""
    instruction = moves.instructions[address]
    if instruction[0] == "turn":
        destroyed = vector[-2]
    else:
        _, name, expression = instruction
        divisor = 1 if is_free(expression) else expression[3]
        destroyed = divisor * vector[moves.place(name)]
    return (destroyed, *moves.state_part(moves.result(address, vector, 1, choice)))


def pairs(moves, address, vectors):
    """Return the list of the pairs of a `set` or a `turn` from open vectors."""
    choices = destroying_choices(moves, address)
    return [pair(moves, address, vector, choice) for vector in vectors for choice in choices]


def way_pairs(moves, vectors, way):
    """Return the list of the pairs of a `go` with a way from open vectors."""
    return [(way * vector[-1], *moves.state_part(vector)) for vector in vectors]


def sum_of(equation, names):
    """Return the sum that gives o for the pairs for which the equation holds; its first factor is positive."""
    divisor, *factors, constant = equation
    terms = sorted([(name, -factor) for name, factor in zip(names, factors) if factor != 0])
    return ("sum", -constant, tuple([(factor, name) for name, factor in terms]), divisor)


def found_sum(moves, given_pairs):
    """Return the sum that gives back what the pairs tell, or None."""
    # If an equation contains o, the first one of the reduced basis is the only one that does, and it is 0
    # at the pivots of all the others, which are the equations of the states after the step.
    equations = dual_basis(moves.size + 1, spanned_basis(given_pairs))
    if not equations or equations[0][0] == 0:
        return None
    return sum_of(equations[0], moves.order)


def place_decision(moves, bases, address):
    """Return the decision at a `set` or a `turn`, where the bases are those of the open spaces."""
    if not bases[address]:
        return NEVER
    value = found_sum(moves, pairs(moves, address, bases[address]))
    return RECORD if value is None else ("given", value)


def join_decision(moves, bases, join):
    """Return the decision at a join."""
    ways = [way for way in (0, 1) if bases[join[way]]]
    if not ways:
        return NEVER
    if len(ways) == 1:
        return ("only", ways[0])
    value = found_sum(moves, [row for way in ways for row in way_pairs(moves, bases[join[way]], way)])
    return RECORD if value is None else ("apart", value)


def decisions(moves, bases):
    """Return the tuple of the decisions at all addresses, None where nothing can be destroyed."""
    found = [None for _ in moves.instructions]
    for address, instruction in enumerate(moves.instructions):
        if instruction[0] in ("set", "turn"):
            found[address] = place_decision(moves, bases, address)
    for join in list(joins(moves.instructions).values()):
        decision = join_decision(moves, bases, join)
        for address in join:
            found[address] = decision
    return tuple(found)
