"""Vectors of integers and the reduced bases of the spaces that they span.

A basis is reduced if the first nonzero entry (the pivot) of each of its vectors is positive, the entries
of each have no common divisor, the pivots ascend, and at a pivot every other vector is 0.
"""

from math import lcm

from frugaltape.integers import common_divisor


def pivot(vector):
    """Return the position of the first nonzero entry of a vector that is not zero."""
    at = 0
    while vector[at] == 0:
        at += 1
    return at


def dot(one, other):
    """Return the sum of the products of the entries at equal positions."""
    return sum([left * right for left, right in zip(one, other)])


def divided(vector):
    """Return the vector divided by the greatest common divisor of its entries."""
    divisor = common_divisor(vector)
    if divisor <= 1:
        return tuple(vector)
    return tuple([entry // divisor for entry in vector])


def positive(vector):
    """Return the vector, or its negative, such that the pivot is positive."""
    if vector[pivot(vector)] > 0:
        return vector
    return tuple([-entry for entry in vector])


def cleared(vector, row):
    """Return a positive multiple of the vector plus a multiple of the row, 0 at the row's positive pivot."""
    at = pivot(row)
    if vector[at] == 0:
        return vector
    divisor = common_divisor([row[at], vector[at]])
    keep = row[at] // divisor
    take = vector[at] // divisor
    # Without dividing after each step, the numbers could double their length each time.
    return divided([keep * one - take * other for one, other in zip(vector, row)])


def rest_beside(basis, vector):
    """Return what is left of the vector after it was cleared by each row of a reduced basis."""
    rest = vector
    for row in basis:
        rest = cleared(rest, row)
    return rest


def is_spanned(basis, vector):
    """Tell whether the vector is in the space of a reduced basis."""
    return not any(rest_beside(basis, vector))


def with_vector(basis, vector):
    """Return the reduced basis of what a reduced basis and a further vector span."""
    rest = rest_beside(basis, vector)
    if not any(rest):
        return basis
    added = positive(divided(rest))
    # Where a row's pivot is behind the added one, the row is already 0 there: all pivots stay.
    rows = [cleared(row, added) for row in basis]
    return tuple(sorted([*rows, added], key=pivot))


def reduced_basis(vectors):
    """Return the reduced basis of what the vectors span."""
    basis = ()
    for vector in vectors:
        basis = with_vector(basis, vector)
    return basis


def unit_vectors(width):
    """Return the vectors with one entry 1 and all others 0."""
    return tuple([tuple([int(at == place) for at in range(width)]) for place in range(width)])


def orthogonal_vector(width, basis, free):
    """Return a vector that is orthogonal to a reduced basis, and 0 where neither a pivot nor `free` is."""
    rows = {pivot(row): row for row in basis}
    scale = 1
    for at in rows:
        scale = lcm(scale, rows[at][at])
    entries = []
    for at in range(width):
        if at in rows:
            entries.append(-rows[at][free] * (scale // rows[at][at]))
        else:
            entries.append(scale if at == free else 0)
    return tuple(entries)


def dual_basis(width, basis):
    """Return the reduced basis of all vectors that are orthogonal to each vector of a reduced basis."""
    pivots = [pivot(row) for row in basis]
    return reduced_basis([orthogonal_vector(width, basis, at) for at in range(width) if at not in pivots])
