"""Vectors as sums of multiples of others."""

from math import lcm

from frugaltape.integers import common_divisor
from frugaltape.linear import dot, pivot, with_vector
from frugaltape.residues import spanned_basis


def independent(vectors):
    """Return the list of the positions of the vectors that do not depend on those before them."""
    positions = []
    basis = ()
    for position, vector in enumerate(vectors):
        wider = with_vector(basis, vector)
        if len(wider) > len(basis):
            positions.append(position)
        basis = wider
    return positions


class Combiner:
    """Writes the vectors of a space as sums of multiples of independent vectors that span it."""

    def __init__(self, vectors):
        width = len(vectors[0])
        marks = [[int(at == place) for at in range(len(vectors))] for place in range(len(vectors))]
        # Whatever multiples of the vectors a row of this basis is made of, its marks tell them.
        basis = spanned_basis([(*vector, *mark) for vector, mark in zip(vectors, marks)])
        self._pivots = [pivot(row) for row in basis]
        self._multiple = 1
        for at, row in zip(self._pivots, basis):
            self._multiple = lcm(self._multiple, row[at])
        scales = [self._multiple // row[at] for at, row in zip(self._pivots, basis)]
        scaled = [[scale * entry for entry in row[width:]] for scale, row in zip(scales, basis)]
        self._columns = [[line[place] for line in scaled] for place in range(len(vectors))]

    def factors(self, vector):
        """Return a multiple of a vector of the space, and the list of the factors of which it is the sum."""
        lead = [vector[at] for at in self._pivots]
        found = [dot(lead, column) for column in self._columns]
        divisor = common_divisor([self._multiple, *found])
        return self._multiple // divisor, [factor // divisor for factor in found]
