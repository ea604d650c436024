"""Free runs of a whole program."""

from frugaltape.linear import divided, unit_vectors
from frugaltape.moves import Moves
from frugaltape.residues import spanned_basis
from frugaltape.rows import Rows

# Primes, tried in order until all is certain; with 0, it always is.
MODULI = ((1 << 127) - 1, (1 << 521) - 1, 0)


def matrix_tests(size):
    """Return the unit vectors of those entries of matrices that are not 0 in all of them."""
    corner = size * size - 1
    return [unit for at, unit in enumerate(unit_vectors(size * size)) if at <= corner - size or at == corner]


def suggest_steps(moves, rows, number, columns):
    """Suggest the results of the moves of a row that was taken."""
    address, row, _ = rows.taken[number]
    for choice in moves.choices(address):
        result = divided(moves.result(address, row, columns, choice))
        rows.suggest(moves.target(address, choice), result, ("step", number, choice))


def suggest_products(moves, matrices, calls, results):
    """Suggest the products of rows of matrices at calls with rows at the return of the called procedure."""
    for call in calls:
        address, before, _ = matrices.taken[call]
        for result in results:
            product = moves.called(matrices.taken[result][1], before, moves.size)
            matrices.suggest(address + 1, product, ("call", call, result))


def suggest_matrices(moves, matrices, number):
    """Suggest all that can be made of a row of matrices that was taken."""
    suggest_steps(moves, matrices, number, moves.size)
    address, _, _ = matrices.taken[number]
    word, *rest = moves.instructions[address]
    if word == "call":
        suggest_products(moves, matrices, [number], matrices.numbers_at(moves.returns[rest[0]]))
    elif word == "return":
        for call in moves.callers[address]:
            suggest_products(moves, matrices, matrices.numbers_at(call), [number])


def explored_matrices(moves, modulus):
    """Return the rows of matrices of all procedures."""
    tests = matrix_tests(moves.size)
    matrices = Rows([tests for _ in moves.instructions], modulus)
    for name in moves.entries:
        matrices.take(moves.entries[name], moves.unit(), ("entry",))
    for number in range(len(moves.entries)):
        suggest_matrices(moves, matrices, number)
    while matrices.take_next():
        suggest_matrices(moves, matrices, len(matrices.taken) - 1)
    return matrices


def suggest_vectors(moves, matrices, vectors, number):
    """Suggest all that can be made of a row of open vectors that was taken."""
    suggest_steps(moves, vectors, number, 1)
    address, vector, _ = vectors.taken[number]
    word, *rest = moves.instructions[address]
    if word != "call":
        return
    vectors.suggest(moves.entries[rest[0]], divided(moves.state_part(vector)), ("enter", number))
    for result in matrices.numbers_at(moves.returns[rest[0]]):
        after = moves.called(matrices.taken[result][1], vector, 1)
        vectors.suggest(address + 1, after, ("call", number, result))


def start_vector(moves, name):
    """Return the vector of the start where a given variable is 1 and all others are 0, or all, for None."""
    return tuple([int(one == name) for one in moves.order] + [1])


def explored_vectors(moves, matrices, given, modulus):
    """Return the rows of open vectors of all free runs of a program with these given variables."""
    vectors = Rows([unit_vectors(moves.size + depth) for depth in moves.depths], modulus)
    for name in (None, *given):
        vectors.take(0, start_vector(moves, name), ("start", name))
    for number in range(len(given) + 1):
        suggest_vectors(moves, matrices, vectors, number)
    while vectors.take_next():
        suggest_vectors(moves, matrices, vectors, len(vectors.taken) - 1)
    return vectors


class Exploration:
    """The rows of matrices and of open vectors that span all that free runs of a program can reach."""

    def __init__(self, program):
        self.moves = Moves(program)
        for modulus in MODULI:
            self.matrices = explored_matrices(self.moves, modulus)
            self.vectors = explored_vectors(self.moves, self.matrices, program.given, modulus)
            if self.matrices.are_certain() and self.vectors.are_certain():
                break
        # The reduced bases of the open spaces of all addresses.
        self.bases = tuple([spanned_basis(self.vectors.at(address)) for address in range(len(program.code))])
