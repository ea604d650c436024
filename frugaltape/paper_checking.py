"""How the rows and the moves of a paper are checked: by multiplying and comparing."""

from frugaltape.exploring import start_vector
from frugaltape.integers import is_integer
from frugaltape.linear import divided
from frugaltape.spaces import is_vector


def is_tuple_of(candidate, length):
    """Tell whether any object is a tuple of a length."""
    return isinstance(candidate, tuple) and len(candidate) == length


def is_number_below(candidate, bound):
    """Tell whether any object is an integer from 0 that is less than the bound."""
    return is_integer(candidate) and 0 <= candidate < bound


def is_choice(moves, address, candidate):
    """Tell whether any object is the choice of a move of the instruction at an address."""
    choices = moves.choices(address)
    if choices != (1, 0):
        return candidate is None and choices == (None,)
    if not is_integer(candidate):
        return False
    return moves.instructions[address][0] in ("set", "begin") or candidate in (0, 1)


def made_by_step(moves, earlier, origin, columns):
    """Return the address and the row that a step makes of an earlier row, or None if there is no such step."""
    if len(origin) != 3 or not is_number_below(origin[1], len(earlier)):
        return None
    address, row, _ = earlier[origin[1]]
    choice = origin[2]
    if not is_choice(moves, address, choice):
        return None
    return moves.target(address, choice), divided(moves.result(address, row, columns, choice))


def made_by_call(moves, earlier, matrices, origin, columns):
    """Return the address and the row that a call makes of an earlier row with a matrix, or None."""
    if len(origin) != 3 or not is_number_below(origin[1], len(earlier)):
        return None
    if not is_number_below(origin[2], len(matrices)):
        return None
    address, row, _ = earlier[origin[1]]
    end, matrix, _ = matrices[origin[2]]
    instruction = moves.instructions[address]
    if instruction[0] != "call" or moves.returns[instruction[1]] != end:
        return None
    return address + 1, moves.called(matrix, row, columns)


def made_by_entering(moves, earlier, origin):
    """Return the address and the vector that a call hands over, or None."""
    if len(origin) != 2 or not is_number_below(origin[1], len(earlier)):
        return None
    address, row, _ = earlier[origin[1]]
    instruction = moves.instructions[address]
    if instruction[0] != "call":
        return None
    return moves.entries[instruction[1]], divided(moves.state_part(row))


def made_matrix(moves, earlier, origin):
    """Return the address and the matrix that an origin makes of the rows before it, or None."""
    starts = [moves.entries[name] for name in moves.entries]
    if len(earlier) < len(starts):
        return (starts[len(earlier)], moves.unit()) if origin == ("entry",) else None
    if origin[:1] == ("step",):
        return made_by_step(moves, earlier, origin, moves.size)
    if origin[:1] == ("call",):
        return made_by_call(moves, earlier, earlier, origin, moves.size)
    return None


def made_vector(moves, starts, earlier, matrices, origin):
    """Return the address and the open vector that an origin makes of the rows before it, or None."""
    if len(earlier) < len(starts):
        name = starts[len(earlier)]
        return (0, start_vector(moves, name)) if origin == ("start", name) else None
    if origin[:1] == ("step",):
        return made_by_step(moves, earlier, origin, 1)
    if origin[:1] == ("call",):
        return made_by_call(moves, earlier, matrices, origin, 1)
    if origin[:1] == ("enter",):
        return made_by_entering(moves, earlier, origin)
    return None


def is_made(row, made):
    """Tell whether a row has the address and the entries that its origin makes."""
    if made is None or not is_integer(row[0]):
        return False
    address, entries = made
    return row[0] == address and is_vector(row[1], len(entries)) and row[1] == entries


def has_origin(candidate):
    """Tell whether any object is a tuple of an address, entries and an origin, whatever they are."""
    return is_tuple_of(candidate, 3) and isinstance(candidate[2], tuple)


def are_matrices(moves, candidate):
    """Tell whether any object is the rows of matrices of a paper."""
    if not isinstance(candidate, tuple):
        return False
    earlier = []
    for row in candidate:
        if not has_origin(row) or not is_made(row, made_matrix(moves, earlier, row[2])):
            return False
        earlier.append(row)
    return len(earlier) >= len(moves.entries)


def are_vectors(moves, given, matrices, candidate):
    """Tell whether any object is the rows of vectors of a paper with these rows of matrices."""
    if not isinstance(candidate, tuple):
        return False
    starts = (None, *given)
    earlier = []
    for row in candidate:
        if not has_origin(row) or not is_made(row, made_vector(moves, starts, earlier, matrices, row[2])):
            return False
        earlier.append(row)
    return len(earlier) >= len(starts)


def total(weighted, width):
    """Return the sum, a tuple, of vectors of a width, each of them behind its factor."""
    entries = [0 for _ in range(width)]
    for factor, vector in weighted:
        entries = [entry + factor * other for entry, other in zip(entries, vector)]
    return tuple(entries)


def is_part(candidate, rows, address):
    """Tell whether any object is a pair of a factor and the number of a row at an address."""
    if not is_tuple_of(candidate, 2) or not is_integer(candidate[0]):
        return False
    return is_number_below(candidate[1], len(rows)) and rows[candidate[1]][0] == address


def are_parts(candidate, rows, address):
    """Tell whether any object is a tuple of pairs of a factor and the number of a row at an address."""
    return isinstance(candidate, tuple) and all([is_part(part, rows, address) for part in candidate])


def is_move(candidate, target, result, rows):
    """Tell whether any object shows that the result of a case is in the space of the rows at its target."""
    if not is_tuple_of(candidate, 2) or not is_integer(candidate[0]) or candidate[0] == 0:
        return False
    multiple, parts = candidate
    if not are_parts(parts, rows, target):
        return False
    weighted = [(factor, rows[number][1]) for factor, number in parts]
    return total(weighted, len(result)) == tuple([multiple * entry for entry in result])


def are_moves(rows, candidate):
    """Tell whether any object is the moves of a paper with these rows."""
    if not isinstance(candidate, tuple):
        return False
    place = 0
    for group, target, result in rows.cases():
        if place == len(candidate) or not is_move(candidate[place], target, result, rows.groups[group]):
            return False
        place += 1
    return place == len(candidate)
