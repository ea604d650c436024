import random
import unittest
from fractions import Fraction
from math import gcd, lcm

from frugaltape.errors import InvalidSpace, InvalidVectors, InvalidWidth, WidthMismatch
from frugaltape.spaces import MAX_WIDTH, Space


def fraction_basis(width, vectors):
    """The reduced basis, found in another way: by columns, with fractions."""
    rows = [[Fraction(entry) for entry in vector] for vector in vectors]
    done = []
    for at in range(width):
        lead = next((row for row in rows if row[at] != 0), None)
        if lead is None:
            continue
        rows.remove(lead)
        lead = [entry / lead[at] for entry in lead]
        rows = [[x - row[at] * y for x, y in zip(row, lead)] for row in rows]
        done = [[x - row[at] * y for x, y in zip(row, lead)] for row in done] + [lead]
    basis = []
    for row in done:
        scale = lcm(*[entry.denominator for entry in row])
        entries = [int(entry * scale) for entry in row]
        basis.append(tuple(entry // gcd(*entries) for entry in entries))
    return tuple(basis)


def random_vectors(rng, width, count, size):
    return [tuple(rng.randrange(-size, size + 1) for _ in range(width)) for _ in range(count)]


def random_space(rng, width):
    return Space(width, random_vectors(rng, width, rng.randrange(width + 1), rng.choice((1, 3, 10**22))))


def dot(one, other):
    return sum(x * y for x, y in zip(one, other))


class BasisTest(unittest.TestCase):
    def check_form(self, space):
        pivots = []
        for row in space.basis:
            self.assertIsInstance(row, tuple)
            self.assertEqual(len(row), space.width)
            pivot = next(at for at, entry in enumerate(row) if entry != 0)
            self.assertGreater(row[pivot], 0)
            self.assertEqual(gcd(*row), 1)
            pivots.append(pivot)
        self.assertEqual(pivots, sorted(set(pivots)))
        for row in space.basis:
            self.assertEqual(sum(row[pivot] != 0 for pivot in pivots), 1)

    def test_examples_of_the_interface(self):
        self.assertEqual(Space(2, [(4, -6)]).basis, ((2, -3),))
        self.assertIs((-2, 3) in Space(2, [(4, -6)]), True)
        self.assertEqual((~Space(2, [(2, -3)])).basis, ((3, 2),))

    def test_small_bases(self):
        self.assertEqual(Space(3, [(0, -2, 4), (3, 3, 0)]).basis, ((1, 0, 2), (0, 1, -2)))
        self.assertEqual(Space(3, [(0, 0, -5), (0, 7, 1)]).basis, ((0, 1, 0), (0, 0, 1)))
        self.assertEqual(Space(3, [(2, 0, 1), (0, 3, 1)]).basis, ((2, 0, 1), (0, 3, 1)))
        self.assertEqual(Space(1, [(-12,)]).basis, ((1,),))

    def test_no_vectors_and_zero_vectors(self):
        self.assertEqual(Space(3).basis, ())
        self.assertEqual(Space(3, []).basis, ())
        self.assertEqual(Space(3, ()).basis, ())
        self.assertEqual(Space(3, [(0, 0, 0)]).basis, ())
        self.assertEqual(Space(2, [(0, 0), (0, 5), (0, 0)]).basis, ((0, 1),))

    def test_basis_is_the_one_that_fractions_give(self):
        rng = random.Random(4)
        for size in (1, 3, 50, 10**21, 10**60):
            for _ in range(60):
                width = rng.randrange(1, 8)
                vectors = random_vectors(rng, width, rng.randrange(width + 3), size)
                space = Space(width, vectors)
                self.check_form(space)
                self.assertEqual(space.basis, fraction_basis(width, vectors))
                self.assertEqual(Space(width, space.basis).basis, space.basis)

    def test_equal_for_other_vectors_of_the_same_space(self):
        rng = random.Random(5)
        for _ in range(100):
            width = rng.randrange(1, 7)
            vectors = random_vectors(rng, width, rng.randrange(1, width + 2), 10**22)
            space = Space(width, vectors)
            shuffled = rng.sample(vectors, len(vectors))
            multiples = [tuple(factor * x for x in v) for v in vectors for factor in (rng.choice((-7, -1, 10**25)),)]
            one, other = rng.choice(vectors), rng.choice(vectors)
            added = [*vectors, tuple(3 * x - 2 * y for x, y in zip(one, other))]
            for same in (shuffled, multiples, added, tuple(vectors)):
                self.assertEqual(Space(width, same), space)
                self.assertEqual(Space(width, same).basis, space.basis)

    def test_numbers_of_thousands_of_digits(self):
        big = 10**3900
        self.assertEqual(Space(2, [(3 * big, -6 * big)]).basis, ((1, -2),))
        self.assertEqual(Space(2, [(big, 1), (1, big)]).basis, ((1, 0), (0, 1)))

    def test_the_greatest_width(self):
        self.assertEqual(MAX_WIDTH, 64)
        rng = random.Random(6)
        vectors = random_vectors(rng, 64, 20, 10**20)
        space = Space(64, vectors)
        self.check_form(space)
        self.assertEqual(len(space), 20)
        self.assertTrue(all(vector in space for vector in vectors))
        dual = ~space
        self.assertEqual(len(dual), 44)
        self.assertTrue(all(dot(one, other) == 0 for one in vectors for other in dual.basis))
        self.assertEqual(~dual, space)
        self.assertEqual(Space(64, random_vectors(rng, 64, 70, 10**20)), Space.full(64))

    def test_properties_are_fixed(self):
        space = Space(2, [(1, 2)])
        for name in ("width", "basis"):
            with self.assertRaises(AttributeError):
                setattr(space, name, 1)
        self.assertEqual((space.width, space.basis), (2, ((1, 2),)))

    def test_changing_the_argument_afterwards_has_no_effect(self):
        vectors = [(1, 2)]
        space = Space(width=2, vectors=vectors)
        vectors.append((1, 3))
        self.assertEqual(space.basis, ((1, 2),))
        self.assertEqual(vectors, [(1, 2), (1, 3)])


class WrongArgumentsTest(unittest.TestCase):
    def test_invalid_width(self):
        for width in (0, 65, -1, True, False, "2", None, 2.0, [2], (2,), 10**5000):
            for vectors in ((), [(1, 2)], None, 7):
                with self.assertRaises(InvalidWidth) as caught:
                    Space(width, vectors)
                self.assertIs(caught.exception.value, width)
            with self.assertRaises(InvalidWidth) as caught:
                Space.full(width)
            self.assertIs(caught.exception.value, width)

    def test_widths_at_the_limits(self):
        self.assertEqual(Space(1).width, 1)
        self.assertEqual(Space(64).width, 64)

    def test_vectors_that_are_no_list_or_tuple(self):
        for vectors in (None, 5, "ab", {(1, 2): 1}, {(1, 2)}, iter([(1, 2)]), Space(2)):
            with self.assertRaises(InvalidVectors) as caught:
                Space(2, vectors)
            self.assertIsNone(caught.exception.position)

    def test_the_first_wrong_vector(self):
        good = (1, 2)
        for wrong in ([1, 2], (1,), (1, 2, 3), (), (True, 1), (1, False), (1, "2"), (1, 2.0), (1, None), 1, None, "12"):
            for before in range(3):
                with self.assertRaises(InvalidVectors) as caught:
                    Space(2, [good] * before + [wrong, good, [0, 0]])
                self.assertEqual(caught.exception.position, before)

    def test_other_operands(self):
        space = Space(2, [(1, 2)])
        for other in (None, 2, [(1, 2)], ((1, 2),), {}, "space", Space):
            for call in (lambda: space | other, lambda: space & other, lambda: space.is_within(other),
                         lambda: other | space, lambda: other & space):
                with self.assertRaises(InvalidSpace) as caught:
                    call()
                self.assertIs(caught.exception.value, other)

    def test_width_mismatch(self):
        one, other = Space(2, [(1, 2)]), Space(3)
        for call in (lambda: one | other, lambda: one & other, lambda: one.is_within(other)):
            with self.assertRaises(WidthMismatch) as caught:
                call()
            self.assertEqual((caught.exception.first, caught.exception.second), (2, 3))
        with self.assertRaises(WidthMismatch) as caught:
            other.is_within(one)
        self.assertEqual((caught.exception.first, caught.exception.second), (3, 2))
        self.assertEqual((one, other), (Space(2, [(1, 2)]), Space(3)))


class OperationsTest(unittest.TestCase):
    def test_membership_of_vectors(self):
        space = Space(3, [(2, 0, 4), (0, 3, 1)])
        for vector in ((0, 0, 0), (1, 0, 2), (-2, 3, -3), (4, -3, 7), (3, 0, 6)):
            self.assertIs(vector in space, True)
        for vector in ((1, 0, 1), (0, 1, 1), (0, 0, 1), (2, 3, 4)):
            self.assertIs(vector in space, False)
        self.assertIs((0, 1, 0) in Space(3), False)

    def test_membership_of_other_objects(self):
        full = Space.full(2)
        self.assertIs((1, 2) in full, True)
        wrong = ([1, 2], (1,), (1, 2, 3), (True, 1), (0, False), (1, 2.0), ("1", 2), (), None, 5, "ab", {}, full, [])
        for candidate in wrong:
            self.assertIs(candidate in full, False)

    def test_length(self):
        self.assertEqual([len(Space(2, vectors)) for vectors in ([], [(2, 4)], [(2, 4), (1, 2)], [(1, 0), (5, 2)])],
                         [0, 1, 1, 2])

    def test_full(self):
        for width in (1, 2, 5, 64):
            full = Space.full(width)
            self.assertEqual((full.width, len(full)), (width, width))
            self.assertEqual(full.basis, tuple(tuple(int(x == y) for y in range(width)) for x in range(width)))
        self.assertEqual(Space.full(width=3), ~Space(3))

    def test_small_operations(self):
        one, other = Space(3, [(1, 0, 0), (0, 1, 0)]), Space(3, [(0, 1, 0), (0, 0, 1)])
        self.assertEqual((one | other).basis, ((1, 0, 0), (0, 1, 0), (0, 0, 1)))
        self.assertEqual((one & other).basis, ((0, 1, 0),))
        self.assertEqual((~one).basis, ((0, 0, 1),))
        self.assertEqual((Space(2, [(1, 2)]) & Space(2, [(1, 3)])).basis, ())
        self.assertEqual((~Space(3, [(1, 2, 3)])).basis, ((3, 0, -1), (0, 3, -2)))

    def test_laws(self):
        rng = random.Random(7)
        for _ in range(150):
            width = rng.randrange(1, 7)
            one, other = random_space(rng, width), random_space(rng, width)
            # Common vectors would be rare otherwise.
            shared = random_vectors(rng, width, rng.randrange(2), 9)
            one, other = one | Space(width, shared), other | Space(width, shared)
            before = (one.basis, other.basis)
            union, meet = one | other, one & other
            self.assertEqual(len(union) + len(meet), len(one) + len(other))
            for space in (one, other):
                self.assertTrue(space.is_within(union) and meet.is_within(space))
                self.assertTrue(all(vector in union for vector in space.basis))
                self.assertTrue(all(vector in space for vector in meet.basis))
                self.assertEqual(len(space) + len(~space), width)
                dual = ~space
                self.assertTrue(all(dot(v, w) == 0 for v in space.basis for w in dual.basis))
                self.assertEqual(~dual, space)
            self.assertEqual(union, other | one)
            self.assertEqual(meet, other & one)
            self.assertEqual(~union, ~one & ~other)
            self.assertEqual((union.basis, meet.width), (fraction_basis(width, one.basis + other.basis), width))
            self.assertEqual((one.basis, other.basis), before)

    def test_within(self):
        line, plane = Space(3, [(2, 2, 0)]), Space(3, [(1, 0, 0), (0, 1, 0)])
        self.assertIs(line.is_within(plane), True)
        self.assertIs(plane.is_within(line), False)
        self.assertIs(line.is_within(other=line), True)
        self.assertIs(Space(3).is_within(line), True)
        self.assertIs(Space(3, [(1, 1, 1)]).is_within(plane), False)

    def test_equality(self):
        space = Space(2, [(1, 2)])
        self.assertEqual(space, Space(2, ((-3, -6),)))
        self.assertFalse(space != Space(2, [(2, 4)]))
        for other in (Space(2, [(1, 3)]), Space(3, [(1, 2, 0)]), Space(2), ((1, 2),), [(1, 2)], (2, ((1, 2),)), None, 2):
            self.assertFalse(space == other)
            self.assertFalse(other == space)
            self.assertTrue(space != other)
        self.assertFalse(Space(2) == Space(3))
        self.assertFalse(Space(2) == ())

    def test_operators_are_in_the_body_of_the_class(self):
        for name in ("__init__", "__len__", "__contains__", "__or__", "__and__", "__invert__", "__eq__",
                     "is_within", "full", "width", "basis"):
            self.assertIn(name, vars(Space))


if __name__ == "__main__":
    unittest.main()
