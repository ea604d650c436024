"""How the decisions of a paper are checked."""

from frugaltape.deciding import NEVER, joins, pair, pairs, way_pairs
from frugaltape.expressions import is_long_sum
from frugaltape.linear import dot
from frugaltape.paper_checking import are_parts, is_choice, is_number_below, is_part, is_tuple_of, total
from frugaltape.paper_rows import VECTORS


def is_giving(moves, value, told):
    """Tell whether any object is a sum that gives what each of the pairs tells."""
    if not is_long_sum(value, moves.order):
        return False
    _, constant, terms, divisor = value
    equation = [divisor, *[0 for _ in moves.order], -constant]
    for factor, name in terms:
        equation[moves.place(name) + 1] = -factor
    return not any([dot(equation, row) for row in told])


def is_destroying(rows, address, candidate):
    """Tell whether any object is a factor, a row at an address and the choice of a move that destroys something."""
    if not is_tuple_of(candidate, 3) or not is_part(candidate[:2], rows.groups[VECTORS], address):
        return False
    is_turn = rows.moves.instructions[address][0] == "turn"
    return is_choice(rows.moves, address, candidate[2]) and not (is_turn and candidate[2] != 0)


def is_place_witness(rows, address, candidate):
    """Tell whether any object shows that a `set` or a `turn` must record."""
    if not isinstance(candidate, tuple) or not all([is_destroying(rows, address, part) for part in candidate]):
        return False
    vectors = rows.groups[VECTORS]
    weighted = [(factor, pair(rows.moves, address, vectors[number][1], choice)) for factor, number, choice in candidate]
    destroyed, *after = total(weighted, rows.moves.size + 1)
    return destroyed != 0 and not any(after)


def is_place_decision(rows, address, candidate):
    """Tell whether any object is the decision at a `set` or a `turn`."""
    vectors = rows.vectors_at(address)
    if candidate == NEVER:
        return not vectors
    if not is_tuple_of(candidate, 2):
        return False
    word, told = candidate
    if word == "given":
        return is_giving(rows.moves, told, pairs(rows.moves, address, vectors))
    return word == "record" and is_place_witness(rows, address, told)


def is_join_witness(rows, join, candidate):
    """Tell whether any object shows that a join must record."""
    if not is_tuple_of(candidate, 2):
        return False
    vectors = rows.groups[VECTORS]
    if not all([are_parts(parts, vectors, address) for parts, address in zip(candidate, join)]):
        return False
    size = rows.moves.size
    zero, one = [
        total([(factor, rows.moves.state_part(vectors[number][1])) for factor, number in parts], size)
        for parts in candidate
    ]
    return zero == one and zero[-1] != 0


def is_join_decision(rows, join, candidate):
    """Tell whether any object is the decision at a join."""
    ways = [rows.vectors_at(address) for address in join]
    if candidate == NEVER:
        return not ways[0] and not ways[1]
    if not is_tuple_of(candidate, 2):
        return False
    word, told = candidate
    if word == "only":
        return is_number_below(told, 2) and len(ways[told]) > 0 and not ways[1 - told]
    if word == "apart":
        shown = [row for way in (0, 1) for row in way_pairs(rows.moves, ways[way], way)]
        return len(ways[0]) > 0 and len(ways[1]) > 0 and is_giving(rows.moves, told, shown)
    return word == "record" and is_join_witness(rows, join, told)


def is_decision(rows, join, address, candidate):
    """Tell whether any object is the decision at an address, which belongs to a join if there is one."""
    if join is not None:
        return is_join_decision(rows, join, candidate)
    if rows.moves.instructions[address][0] in ("set", "turn"):
        return is_place_decision(rows, address, candidate)
    return candidate is None


def are_decisions(rows, candidate):
    """Tell whether any object is the decisions of a paper with these rows."""
    code = rows.moves.instructions
    if not is_tuple_of(candidate, len(code)):
        return False
    found = joins(code)
    for address, instruction in enumerate(code):
        join = found[instruction[1]] if instruction[0] == "go" else None
        if not is_decision(rows, join, address, candidate[address]):
            return False
    return all([candidate[zero] == candidate[one] for zero, one in list(found.values())])
