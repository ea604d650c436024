"""How papers are made."""

from frugaltape.combining import Combiner, independent
from frugaltape.deciding import RECORD, decisions, destroying_choices, joins, pair, way_pairs
from frugaltape.paper_rows import VECTORS, PaperRows


class Parts:
    """Writes the results of cases as sums of multiples of rows."""

    def __init__(self, rows):
        self._rows = rows
        self._combiners = {}

    def move(self, group, target, result):
        """Return the element of the moves of a paper for a case."""
        numbers = self._rows.numbers[group][target]
        if (group, target) not in self._combiners:
            spanning = [self._rows.groups[group][number][1] for number in numbers]
            self._combiners[group, target] = Combiner(spanning)
        multiple, factors = self._combiners[group, target].factors(result)
        return multiple, tuple([(factor, number) for factor, number in zip(factors, numbers) if factor != 0])


def made_moves(rows):
    """Return the moves of a paper with these rows."""
    parts = Parts(rows)
    made = []
    for group, target, result in rows.cases():
        made.append(parts.move(group, target, result))
    return tuple(made)


def vanishing_sum(pairs):
    """Return the list of the factors with which pairs add up to one that is 0 but for its first entry."""
    chosen = independent(pairs)
    goal = (1, *[0 for _ in pairs[0][1:]])
    _, factors = Combiner([pairs[at] for at in chosen]).factors(goal)
    found = [0 for _ in pairs]
    for at, factor in zip(chosen, factors):
        found[at] = factor
    return found


def place_witness(rows, address):
    """Return the witness that a `set` or a `turn` must record."""
    numbers = rows.numbers[VECTORS][address]
    choices = destroying_choices(rows.moves, address)
    used = [(number, choice) for number in numbers for choice in choices]
    pairs = [pair(rows.moves, address, rows.groups[VECTORS][number][1], choice) for number, choice in used]
    factors = vanishing_sum(pairs)
    return tuple([(factor, *told) for factor, told in zip(factors, used) if factor != 0])


def join_witness(rows, join):
    """Return the witness that a join must record."""
    pairs = [row for way in (0, 1) for row in way_pairs(rows.moves, rows.vectors_at(join[way]), way)]
    factors = vanishing_sum(pairs)
    zero, one = [rows.numbers[VECTORS][address] for address in join]
    return (
        tuple([(-factor, number) for factor, number in zip(factors, zero) if factor != 0]),
        tuple([(factor, number) for factor, number in zip(factors[len(zero):], one) if factor != 0]),
    )


def made_decisions(rows, bases):
    """Return the decisions of a paper with these rows, where the bases are those of the open spaces."""
    moves = rows.moves
    found = list(decisions(moves, bases))
    for join in list(joins(moves.instructions).values()):
        if found[join[0]] == RECORD:
            found[join[0]] = ("record", join_witness(rows, join))
        found[join[1]] = found[join[0]]
    for address, instruction in enumerate(moves.instructions):
        if instruction[0] in ("set", "turn") and found[address] == RECORD:
            found[address] = ("record", place_witness(rows, address))
    return tuple(found)


def made_paper(explored):
    """Return a paper of the program that was explored."""
    matrices = tuple(explored.matrices.taken)
    vectors = tuple(explored.vectors.taken)
    rows = PaperRows(explored.moves, matrices, vectors)
    return matrices, vectors, made_moves(rows), made_decisions(rows, explored.bases)
