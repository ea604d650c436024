"""Reduced bases of long numbers, found by way of residues.

Clearing long vectors by each other makes numbers in between that are many times longer than those of the
reduced basis at the end. So the basis is first guessed from its residues by a prime number, and then
shown to be right: the guess has no more vectors than the space, and each given vector is in its space.
"""

from math import isqrt

from frugaltape.linear import divided, is_spanned, reduced_basis

# The primes are 2 to the power of these, minus 1.
EXPONENTS = (521, 2203, 9689, 21701)
# With so few vectors, or bits in all, nothing gets long, and clearing at once is faster.
FEW_VECTORS = 4
FEW_BITS = 4000


def total_bits(vectors):
    """Return the number of bits of all entries together."""
    return sum([entry.bit_length() for vector in vectors for entry in vector])


def inverse(number, prime):
    """Return what the number is to be multiplied with to get 1 more than a multiple of the prime."""
    one, other = prime, number
    before, factor = 0, 1
    while other != 1:
        times = one // other
        one, other = other, one - times * other
        before, factor = factor, before - times * factor
    return factor


def residue_basis(vectors, prime):
    """Return the reduced basis of the residues, as a list of pairs of a pivot and a vector that is 1 there."""
    basis = []
    for vector in vectors:
        rest = [entry % prime for entry in vector]
        for at, row in basis:
            rest = [(one - rest[at] * other) % prime for one, other in zip(rest, row)]
        if not any(rest):
            continue
        pivot = [at for at, entry in enumerate(rest) if entry][0]
        scale = inverse(rest[pivot], prime)
        added = [scale * entry % prime for entry in rest]
        basis = [(at, [(one - row[pivot] * other) % prime for one, other in zip(row, added)]) for at, row in basis]
        basis.append((pivot, added))
    return sorted(basis)


def short_factor(residue, prime, bound):
    """Return a positive factor, as short as can be, that makes a short number of the residue, or its negative."""
    one, other = prime, residue
    before, factor = 0, 1
    while other > bound:
        times = one // other
        one, other = other, one - times * other
        before, factor = factor, before - times * factor
    return abs(factor)


def whole_vector(row, prime, bound):
    """Return the reduced vector of numbers up to a bound of which the residues are a multiple, or None."""
    scale = 1
    for entry in row:
        scale = scale * short_factor(entry * scale % prime, prime, bound)
        if scale > bound:
            return None
    whole = [entry * scale % prime for entry in row]
    return divided([entry if 2 * entry < prime else entry - prime for entry in whole])


def guessed_basis(vectors, prime):
    """Return the reduced basis that the residues suggest, or None if its numbers would not be short."""
    bound = isqrt(prime // 2)
    basis = []
    for _, row in residue_basis(vectors, prime):
        vector = whole_vector(row, prime, bound)
        if vector is None:
            return None
        basis.append(vector)
    return tuple(basis)


def spanned_basis(vectors):
    """Return the reduced basis of what the vectors span."""
    if len(vectors) > FEW_VECTORS and total_bits(vectors) > FEW_BITS:
        for exponent in EXPONENTS:
            basis = guessed_basis(vectors, (1 << exponent) - 1)
            if basis is not None and all([is_spanned(basis, vector) for vector in vectors]):
                return basis
    return reduced_basis(vectors)
