"""Spaces of integer vectors."""

from frugaltape.errors import InvalidSpace, InvalidVectors, InvalidWidth, WidthMismatch
from frugaltape.integers import is_integer
from frugaltape.linear import dual_basis, is_spanned, reduced_basis, unit_vectors

MAX_WIDTH = 64


def is_vector(candidate, width):
    """Tell whether any object is a vector of the width."""
    if not isinstance(candidate, tuple) or len(candidate) != width:
        return False
    return all([is_integer(entry) for entry in candidate])


def check_width(value):
    """Raise an error unless the value is a width."""
    if not is_integer(value) or not 1 <= value <= MAX_WIDTH:
        raise InvalidWidth(value)


def check_vectors(value, width):
    """Raise an error unless the value is a list or tuple of vectors of the width."""
    if not isinstance(value, (list, tuple)):
        raise InvalidVectors(None)
    for position, vector in enumerate(value):
        if not is_vector(vector, width):
            raise InvalidVectors(position)


class Space:
    """The integer points of a linear space; it never changes."""

    def __init__(self, width, vectors=()):
        check_width(width)
        check_vectors(vectors, width)
        self._width = width
        self._basis = reduced_basis(vectors)

    @classmethod
    def full(cls, width):
        """Return the space of all vectors of a width."""
        check_width(width)
        return cls(width, unit_vectors(width))

    @property
    def width(self):
        """The number of entries of each vector."""
        return self._width

    @property
    def basis(self):
        """The reduced basis."""
        return self._basis

    def is_within(self, other):
        """Tell whether each vector of this space is in the other one."""
        self._check_operand(other)
        return all([is_spanned(other.basis, vector) for vector in self._basis])

    def _check_operand(self, other):
        if not isinstance(other, Space):
            raise InvalidSpace(other)
        if self._width != other.width:
            raise WidthMismatch(self._width, other.width)

    def __len__(self):
        return len(self._basis)

    def __contains__(self, x):
        return is_vector(x, self._width) and is_spanned(self._basis, x)

    def __eq__(self, other):
        return isinstance(other, Space) and self._width == other._width and self._basis == other._basis

    def __or__(self, other):
        self._check_operand(other)
        return Space(self._width, self._basis + other.basis)

    def __ror__(self, other):
        raise InvalidSpace(other)

    def __and__(self, other):
        self._check_operand(other)
        # A vector is in both spaces if it is orthogonal to all that is orthogonal to one of them.
        return ~(~self | ~other)

    def __rand__(self, other):
        raise InvalidSpace(other)

    def __invert__(self):
        return Space(self._width, dual_basis(self._width, self._basis))
