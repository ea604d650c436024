import random
import unittest
from math import gcd

from frugaltape.analysis import Analysis
from frugaltape.errors import InvalidAddress
from frugaltape.programs import Program
from frugaltape.texts import parse_program
from oracles import Spaces, basis, equations
from samples import X, lively_program, text_of, total

RECORD = ("record",)
NEVER = ("never",)


def given(*parts, by=1):
    return ("given", total(*parts, by=by))


def apart(*parts, by=1):
    return ("apart", total(*parts, by=by))


class DecisionTest(unittest.TestCase):
    def check(self, lines, expected, head="given a\nvar x"):
        """The decisions at all addresses of a main block, without that at its `stop`."""
        analysis = Analysis(parse_program(text_of(*lines, head=head)))
        found = [analysis.decision(address) for address in range(len(expected))]
        self.assertEqual(found, expected)
        self.assertIsNone(analysis.decision(len(expected)))
        self.assertEqual(analysis.recording, tuple(at for at, one in enumerate(expected) if one == RECORD))

    def test_example_of_the_interface(self):
        self.check(["set x = 2 * a + 1", "set a = read"], [given(0), given(-1, (1, "x"), by=2)])

    def test_no_places(self):
        lines = ["swap a x", "print x", "call p"]
        analysis = Analysis(parse_program(text_of(*lines, head="given a\nvar x\nproc p\nend")))
        self.assertEqual([analysis.decision(address) for address in range(5)], [None] * 5)
        self.assertEqual(analysis.recording, ())

    def test_set(self):
        self.check(["set a = 0"], [RECORD])
        self.check(["set a = -a + 3"], [given(3, (-1, "a"))])
        self.check(["set a = (2 * a + 3 * x) / 5"], [given(0, (5, "a"), by=2)])
        self.check(["set a = a + x", "set a = a + x"], [given(0, (1, "a")), given(0, (1, "a"))])
        self.check(["set a = a + x"], [given(0, (1, "a"), (-1, "x"))], "given a x")
        self.check(["set a = x"], [RECORD], "given a x")
        self.check(["set a = 2 * x", "set x = read", "set x = 0", "set a = 1"],
                   [RECORD, given(0, (1, "a"), by=2), RECORD, RECORD], "given a x")
        for expression in ("read", "product(a, 2)", "quotient(a, 1)", "remainder(a, 9)", "less(a, 1)", "same(a, a)"):
            self.check([f"set a = {expression}", "set x = a", f"set a = {expression}"],
                       [RECORD, given(0), given(0, (1, "x"))])

    def test_the_factors_at_the_pivots_of_the_equations_are_0(self):
        # After the last step a = x and y = 0, so a is a pivot and x is not.
        self.check(["set x = a", "set y = a", "set y = 0"], [given(0), given(0), given(0, (1, "x"))], "given a\nvar x y")
        self.check(["set y = a", "set x = a", "set x = 0"], [given(0), given(0), given(0, (1, "y"))], "given a\nvar x y")
        # After the last step a + 2 x = 5: in terms of x.
        self.check(["set x = (-a + 5) / 2", "set y = 3 * a", "set y = 9"],
                   [given(0), given(0), given(15, (-6, "x"))], "given a\nvar x y")

    def test_long_numbers(self):
        lines = [f"set x = {10**299 + 1} * a + {10**298 + 3}"] + [f"set x = {10**299 + 7} * x - {10**299 + 9}"] * 3 + ["set a = 0"]
        analysis = Analysis(parse_program(text_of(*lines, head="given a\nvar x")))
        word, (_, constant, ((factor, name),), divisor) = analysis.decision(4)
        self.assertEqual((word, name, factor), ("given", "x", 1))
        self.assertEqual(divisor, (10**299 + 7) ** 3 * (10**299 + 1))
        x = 10**298 + 3
        for _ in range(3):
            x = (10**299 + 7) * x - (10**299 + 9)
        self.assertEqual(constant, -x)

    def test_joins_that_are_apart(self):
        self.check(["if a", "  set x = 1", "else", "  set x = 0", "end"],
                   [None, given(0), apart(0, (1, "x")), given(0), apart(0, (1, "x"))])
        self.check(["if a", "  set x = 7", "else", "  set x = -3", "end"],
                   [None, given(0), apart(3, (1, "x"), by=10), given(0), apart(3, (1, "x"), by=10)])
        self.check(["set x = a", "if read", "  set x = x + 2", "end"],
                   [given(0), None, given(-2, (1, "x")), apart(0, (-1, "a"), (1, "x"), by=2), apart(0, (-1, "a"), (1, "x"), by=2)])

    def test_a_sum_that_is_1_after_way_1(self):
        # The sum would be 1 after way 0 if the ways were mistaken for each other.
        self.check(["if a", "else", "  set x = 1", "end"],
                   [None, apart(1, (-1, "x")), given(0), apart(1, (-1, "x"))])

    def test_joins_that_record(self):
        self.check(["if a", "end"], [None, RECORD, RECORD])
        self.check(["if a", "  set x = 1", "else", "  set x = 1", "end"],
                   [None, given(0), RECORD, given(0), RECORD])
        self.check(["if a", "  set x = a", "end"], [None, given(0), RECORD, RECORD])

    def test_while(self):
        self.check(["while a", "end"], [RECORD, None, RECORD])
        # The way is found as long as the state before the loop is not reached again.
        self.check(["while read", "  set x = 1", "end"],
                   [apart(0, (1, "x")), None, RECORD, apart(0, (1, "x"))])
        self.check(["while read", "  set x = x + 1", "end"], [RECORD, None, given(-1, (1, "x")), RECORD])

    def test_turn(self):
        self.check(["repeat a", "end"], [None, given(0, (1, "a")), None])
        self.check(["repeat (3 * a + 1) / 2", "end"], [None, given(1, (3, "a"), by=2), None])
        self.check(["repeat 5", "  set a = 0", "end"], [None, given(5), RECORD, None])
        self.check(["repeat read", "end"], [None, RECORD, None])
        self.check(["repeat product(a, a)", "end"], [None, RECORD, None])
        self.check(["repeat a", "  set a = a + 1", "end"], [None, RECORD, given(-1, (1, "a")), None])
        self.check(["repeat a", "  swap a x", "end"], [None, given(0, (1, "a"), (1, "x")), None, None])
        # What was read is not known, but it is kept in x.
        self.check(["set x = read", "repeat x", "  set a = a + x", "end"],
                   [given(0), None, given(0, (1, "x")), given(0, (1, "a"), (-1, "x")), None])
        self.check(["repeat a", "  repeat 2", "    set a = 0", "  end", "end"],
                   [None, RECORD, None, given(2), RECORD, None, None])

    def test_never_and_only(self):
        lines = ["if a", "  call p", "  set x = 1", "end", "if a", "  call p", "else", "  call p", "end", "set x = 2",
                 "repeat a", "end", "while a", "end", "if x", "end"]
        head = "given a\nvar x\nproc p\n  call p\nend"
        expected = [None, None, NEVER, ("only", 0), ("only", 0), None, None, NEVER, None, NEVER, NEVER, None, NEVER, None,
                    NEVER, None, NEVER, None, NEVER, NEVER]
        self.check(lines, expected, head)
        self.check(["if a", "else", "  call p", "end", "while a", "  call p", "end", "set x = 2"],
                   [None, ("only", 1), None, ("only", 1), ("only", 0), None, None, ("only", 0), given(0)], head)

    def test_procedures(self):
        text = "given a\nvar x\nproc p\n  set x = a\n  if x\n    set a = 2 * a\n  end\nend\nmain\n  call p\n  call p\nend"
        analysis = Analysis(parse_program(text))
        self.assertEqual([analysis.decision(address) for address in range(9)],
                         [None, None, None, RECORD, None, given(0, (1, "x")), RECORD, RECORD, None])
        self.assertEqual(analysis.recording, (3, 6, 7))

    def test_the_open_loops_of_a_procedure_only(self):
        lines = ["given a", "var x", "proc p", "  repeat x", "    call p", "  end", "end", "main", "  repeat a",
                 "    call p", "    set a = a + x", "  end", "end"]
        analysis = Analysis(parse_program("\n".join(lines)))
        self.assertEqual(analysis.decision(1), given(0, (1, "a")))
        self.assertEqual(analysis.decision(7), given(0))

    def test_addresses(self):
        analysis = Analysis(parse_program(text_of("set a = x")))
        for wrong in (-1, 2, True, False, None, "1", 1.0, (1,), [1], 10**50):
            with self.assertRaises(InvalidAddress) as caught:
                analysis.decision(wrong)
            self.assertIs(caught.exception.value, wrong)


class OracleTest(unittest.TestCase):
    """Decisions of random programs are compared with what spaces that were found in another way tell."""

    def pairs(self, spaces, program, address):
        """The pairs (n1, .., nk, m, o) of a `set` or a `turn`."""
        word, *rest = program.code[address]
        k = len(program.names)
        found = []
        for vector in spaces.open_basis(address):
            state = spaces.cut(vector)
            if word == "turn":
                found.append((*state, vector[-2]))
                continue
            place = program.names.index(rest[0])
            for choice in spaces.choices(rest[1]):
                (entry,), divisor = spaces.row_of(rest[1], [(n,) for n in state], choice)
                after = [divisor * n for n in state]
                after[place] = entry
                found.append((*after, divisor * state[place]))
        self.assertTrue(all(len(pair) == k + 2 for pair in found))
        return found

    def check_sum(self, program, value, pairs):
        """The sum gives the last entry of all pairs, and is the one that is to be returned."""
        names = program.names
        _, constant, terms, divisor = value
        factors = {name: factor for factor, name in terms}
        self.assertEqual([name for _, name in terms], sorted(factors))
        self.assertNotIn(0, factors.values())
        self.assertGreater(divisor, 0)
        self.assertEqual(gcd(constant, divisor, *factors.values()), 1)
        for *state, m, told in pairs:
            total = constant * m + sum(factors.get(name, 0) * n for name, n in zip(names, state))
            self.assertEqual(total, divisor * told)
        for row in equations(len(names) + 1, [pair[:-1] for pair in pairs]):
            pivot = next(at for at, entry in enumerate(row) if entry)
            self.assertNotIn(names[pivot], factors)

    def check(self, program, kinds):
        analysis, spaces = Analysis(program), Spaces(program)
        recording = []
        for address, instruction in enumerate(program.code):
            decision = analysis.decision(address)
            word, pairs, ways = "given", [], None
            if instruction[0] in ("set", "turn"):
                pairs = self.pairs(spaces, program, address)
            elif instruction[0] == "go":
                other = [at for at, one in enumerate(program.code) if one[:2] == instruction[:2]]
                self.assertEqual(analysis.decision(other[0]), analysis.decision(other[1]))
                ways = {program.code[at][2]: spaces.basis(at) for at in other}
                pairs = [(*vector, way * vector[-1]) for way in ways for vector in ways[way]]
                word = "apart"
            else:
                self.assertIsNone(decision)
                continue
            if not pairs:
                expected = NEVER
            elif ways is not None and not all(ways.values()):
                expected = ("only", 0 if ways[0] else 1)
            elif any(row[:-1] == (0,) * (len(row) - 1) for row in basis(pairs)):
                expected = RECORD
                recording.append(address)
            else:
                expected = (word, decision[1])
                self.check_sum(program, decision[1], pairs)
            self.assertEqual(decision, expected)
            kinds.add((instruction[0], decision[0]))
        self.assertEqual(analysis.recording, tuple(recording))

    def test_random_programs(self):
        rng = random.Random(17)
        kinds = set()
        made = 0
        while made < 150:
            program = lively_program(rng, 3 if made % 5 else 4)
            if len(program.code) <= 25:
                self.check(program, kinds)
                made += 1
        self.assertEqual(kinds, {
            ("set", "given"), ("set", "record"), ("turn", "given"), ("turn", "record"),
            ("go", "only"), ("go", "apart"), ("go", "record"), ("set", "never"), ("turn", "never"), ("go", "never"),
        })

    def test_a_full_space_of_pairs(self):
        # All that a program with one variable may do: the pairs have no equation at all.
        program = Program(("x",), (), (), (("set", "x", ("read",)), ("while", X, (("set", "x", ("read",)),))))
        analysis = Analysis(program)
        self.assertEqual(analysis.recording, (0, 1, 3, 4))


if __name__ == "__main__":
    unittest.main()
