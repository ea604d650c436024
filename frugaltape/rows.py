"""Rows that free runs make, taken up until they span all that free runs can make."""

from heapq import heappop, heappush

from frugaltape.linear import divided, dot, dual_basis
from frugaltape.residues import spanned_basis, total_bits


def lowered(numbers, modulus):
    """Return the residues of the numbers, or the numbers themselves if the modulus is 0."""
    if modulus == 0:
        return numbers
    return [number % modulus for number in numbers]


class Span:
    """What the rows at an address span, as far as residues by a prime number tell, or exactly if it is 0.

    That a row is independent of others, its residues show for certain. That it is not, they only make
    likely: such rows are doubts until they are compared with what all rows span in the end.
    """

    def __init__(self, tests, modulus):
        # These span all that is orthogonal to the rows taken so far.
        self._tests = tests
        self._modulus = modulus
        self._rows = []
        self._doubts = []

    def takes(self, row):
        """Take a row if it is independent of those that were taken; tell whether it is."""
        part = lowered(row, self._modulus)
        products = lowered([dot(test, part) for test in self._tests], self._modulus)
        others = [at for at, product in enumerate(products) if product != 0]
        if others:
            self._rows.append(row)
            lead = others[0]
            self._tests = [self._freed(at, lead, products) for at in range(len(products)) if at != lead]
        elif self._tests and self._modulus != 0:
            self._doubts.append(row)
        return len(others) > 0

    def _freed(self, at, lead, products):
        if products[at] == 0:
            return self._tests[at]
        keep = products[lead]
        less = products[at]
        rest = [keep * one - less * other for one, other in zip(self._tests[at], self._tests[lead])]
        return divided(lowered(rest, self._modulus))

    def is_certain(self):
        """Tell whether the rows that were taken span the others, too."""
        if not self._doubts:
            return True
        tests = dual_basis(len(self._rows[0]), spanned_basis(self._rows))
        return not any([dot(test, row) for test in tests for row in self._doubts])


class Rows:
    """Rows in the order in which they were taken, each with its address and its origin."""

    def __init__(self, tests, modulus):
        self.taken = []
        self._spans = [Span(vectors, modulus) for vectors in tests]
        self._numbers = [[] for _ in tests]
        self._queue = []
        self._suggested = 0

    def numbers_at(self, address):
        """Return the list of the numbers of the rows at an address."""
        return list(self._numbers[address])

    def at(self, address):
        """Return the list of the rows at an address."""
        return [self.taken[number][1] for number in self._numbers[address]]

    def take(self, address, row, origin):
        """Take a row, unless it depends on those at its address; return whether it was taken."""
        if not self._spans[address].takes(row):
            return False
        self._numbers[address].append(len(self.taken))
        self.taken.append((address, row, origin))
        return True

    def suggest(self, address, row, origin):
        """Keep a row for later."""
        # Where there are many ways to span the same, short numbers make the ones that follow short.
        self._suggested += 1
        heappush(self._queue, (total_bits([row]), self._suggested, address, row, origin))

    def take_next(self):
        """Take the shortest row that was kept and does not depend on others; tell whether there is one."""
        while self._queue:
            _, _, address, row, origin = heappop(self._queue)
            if self.take(address, row, origin):
                return True
        return False

    def are_certain(self):
        """Tell whether the rows that were taken span all that were kept."""
        return all([span.is_certain() for span in self._spans])
