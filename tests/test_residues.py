import random
import unittest

from frugaltape.combining import Combiner, independent
from frugaltape.residues import EXPONENTS, FEW_BITS, FEW_VECTORS, guessed_basis, spanned_basis, total_bits
from oracles import basis


def combination(rng, rows, size):
    """A sum of random multiples of rows."""
    factors = [rng.randrange(-size, size) for _ in rows]
    return tuple(sum(factor * row[at] for factor, row in zip(factors, rows)) for at in range(len(rows[0])))


class SpannedBasisTest(unittest.TestCase):
    def check(self, vectors):
        self.assertGreater(len(vectors), FEW_VECTORS)
        self.assertGreater(total_bits(vectors), FEW_BITS)
        self.assertEqual(spanned_basis(vectors), basis(vectors))

    def test_long_vectors_in_spaces_with_short_bases(self):
        rng = random.Random(1)
        for _ in range(40):
            width = rng.randrange(3, 10)
            short = [tuple(rng.randrange(-5, 6) for _ in range(width)) for _ in range(rng.randrange(1, width + 1))]
            self.check([combination(rng, short, 10**300) for _ in range(rng.randrange(5, 12))])

    def test_long_vectors_that_span_all(self):
        rng = random.Random(2)
        for width in range(2, 9):
            vectors = [tuple(rng.randrange(-(10**400), 10**400) for _ in range(width)) for _ in range(max(width, 5))]
            self.check(vectors)

    def test_bases_of_long_numbers(self):
        rng = random.Random(3)
        for digits in (50, 200, 500, 1500):
            long = [tuple(rng.randrange(-(10**digits), 10**digits) for _ in range(8)) for _ in range(5)]
            self.check([combination(rng, long, 10**50) for _ in range(6)])

    def test_multiples_of_the_prime_numbers(self):
        rng = random.Random(4)
        for exponent in EXPONENTS[:2]:
            prime = 2**exponent - 1
            for _ in range(10):
                short = [tuple(rng.randrange(-3, 4) for _ in range(6)) for _ in range(4)]
                vectors = [combination(rng, short, 10**9) for _ in range(5)]
                vectors.append(tuple(prime * entry + (at == 0) for at, entry in enumerate(short[0])))
                vectors.append(tuple(prime * rng.randrange(-9, 9) for _ in range(6)))
                self.check([tuple(10**200 * entry for entry in vector) for vector in vectors])

    def test_a_guess_that_is_wrong_is_not_taken(self):
        prime = 2**521 - 1
        vectors = [(1, 0, prime * at) for at in range(6)] + [(0, 0, 10**1500)] * 3
        self.assertNotEqual(guessed_basis(vectors[:6], prime), basis(vectors[:6]))
        self.check(vectors)
        self.check([(1, 0, prime * at * 10**200) for at in range(6)])

    def test_no_vectors(self):
        self.assertEqual(spanned_basis([]), ())


class CombinerTest(unittest.TestCase):
    def test_random_vectors(self):
        rng = random.Random(5)
        for size in (3, 10**100):
            for _ in range(60):
                width = rng.randrange(1, 8)
                vectors = [tuple(rng.randrange(-size, size) for _ in range(width)) for _ in range(rng.randrange(1, 10))]
                positions = independent(vectors)
                chosen = [vectors[at] for at in positions]
                self.assertEqual(basis(chosen), basis(vectors))
                self.assertEqual(len(chosen), len(basis(vectors)))
                if not chosen:
                    continue
                combiner = Combiner(chosen)
                for vector in (*vectors, combination(rng, vectors, 100)):
                    multiple, factors = combiner.factors(vector)
                    self.assertGreater(multiple, 0)
                    self.assertEqual([multiple * entry for entry in vector],
                                     [sum(factor * row[at] for factor, row in zip(factors, chosen)) for at in range(width)])


if __name__ == "__main__":
    unittest.main()
