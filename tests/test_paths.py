import random
import unittest
from fractions import Fraction
from math import gcd, lcm

from frugaltape.errors import InvalidChoices, InvalidCount, InvalidProgram, InvalidValues
from frugaltape.paths import free_run
from frugaltape.programs import Program
from frugaltape.texts import parse_program
from samples import PAIRS, lively_program, one_variable, random_parts, text_of, total

EXAMPLE = "given a\nvar x\nmain\n  set x = 2 * a + 1\n  set a = read\nend"


class FractionRun:
    """A free run with fractions; it makes up its choices."""

    def __init__(self, program, start, rng):
        self.program = program
        self.rng = rng
        self.state = {name: Fraction(start.get(name, 0)) for name in program.names}
        self.address = 0
        self.stack = []
        self.choices = []

    def choose(self, *options):
        self.choices.append(self.rng.choice(options))
        return self.choices[-1]

    def value(self, expression):
        if expression[0] != "sum":
            return Fraction(self.choose(0, 1, -5, 10**25))
        _, constant, terms, divisor = expression
        return (constant + sum(factor * self.state[name] for factor, name in terms)) / Fraction(divisor)

    def step(self):
        word, *rest = self.program.code[self.address]
        following = self.address + 1
        if word == "set":
            self.state[rest[0]] = self.value(rest[1])
        elif word == "swap":
            one, other = rest
            self.state[one], self.state[other] = self.state[other], self.state[one]
        elif word == "test":
            following = following if self.choose(0, 1) else rest[1]
        elif word in ("go", "again"):
            following = rest[0]
        elif word == "begin":
            self.stack.append(self.value(rest[0]))
        elif word == "turn":
            if not self.choose(0, 1):
                self.stack.pop()
                following = rest[0]
        elif word == "call":
            self.stack.append(following)
            following = self.program.entry(rest[0])
        elif word == "return":
            following = self.stack.pop()
        self.address = following

    def expected(self):
        state = [self.state[name] for name in self.program.names]
        scale = lcm(*[value.denominator for value in state])
        vector = (*[int(value * scale) for value in state], scale)
        stack = [item if isinstance(item, int) else (item.numerator, item.denominator) for item in self.stack]
        return self.address, vector, tuple(stack), len(self.choices)


class FreeRunTest(unittest.TestCase):
    def check(self, lines, choices, steps, expected, start=None, head="var a x"):
        self.assertEqual(free_run(parse_program(text_of(*lines, head=head)), start or {}, choices, steps), expected)

    def test_example_of_the_interface(self):
        self.assertEqual(free_run(parse_program(EXAMPLE), {"a": 5}, [7], 2), (2, (7, 11, 1), (), 1))

    def test_start(self):
        self.check(["print 1"], (), 0, (0, (-7, 0, 1), (), 0), {"a": -7}, "given a\nvar x")
        self.check(["print 1"], (4, 5), 0, (0, (0, 0, 1), (), 0))

    def test_sums_are_fractions_in_lowest_terms(self):
        lines = ["set a = 6", "set x = (a - 3) / 9", "set a = (2 * a + x) / 4", "set x = 5", "set a = 2"]
        for steps, vector in enumerate([(0, 0, 1), (6, 0, 1), (18, 1, 3), (37, 4, 12), (37, 60, 12), (2, 5, 1)]):
            self.check(lines, (), steps, (steps, vector, (), 0))

    def test_swap_and_print(self):
        lines = ["set a = (1) / 2", "swap a x", "print read", "print product(a, x)", "print (1) / 7"]
        self.check(lines, (), 5, (5, (0, 1, 2), (), 0))

    def test_free_expressions_of_set(self):
        for expression in ("read", *[f"{word}((a + 1) / 3, 0)" for word in PAIRS]):
            lines = ["set a = (1) / 3", f"set x = {expression}", "set a = x"]
            self.check(lines, [9, 8], 2, (2, (1, 27, 3), (), 1))
            self.check(lines, (-10**40, 8), 3, (3, (-10**40, -10**40, 1), (), 1))

    def test_tests_go_either_way(self):
        for expression in ("0", "1", "(1) / 2", "read", "quotient(1, 0)"):
            lines = [f"if {expression}", "  set a = 1", "else", "  set a = 2", "end"]
            self.check(lines, [1], 3, (5, (1, 0, 1), (), 1))
            self.check(lines, [0], 3, (5, (2, 0, 1), (), 1))
            lines = [f"while {expression}", "  set a = a + 1", "end"]
            self.check(lines, [1, 1, 0], 8, (4, (2, 0, 1), (), 3))

    def test_turns_go_either_way(self):
        lines = ["repeat -5", "  set a = a + 1", "end"]
        self.check(lines, [1, 1, 0], 8, (4, (2, 0, 1), (), 3))
        self.check(lines, [0], 2, (4, (0, 0, 1), (), 1))
        self.check(lines, [1], 4, (1, (1, 0, 1), ((-5, 1),), 1))

    def test_open_begins_are_pairs_in_lowest_terms(self):
        lines = ["set a = 4", "set x = (1) / 6", "repeat (a + x) / 10", "  repeat -x", "    repeat 0", "      repeat read",
                 "        repeat (a + 2) / 6", "        end", "      end", "    end", "  end", "end"]
        stack = ((5, 12), (-1, 6), (0, 1), (-8, 1), (1, 1))
        self.check(lines, [1, 1, 1, -8, 1], 11, (11, (24, 1, 6), stack, 5))
        self.check(lines, [1, 1, 1, -8, 0], 10, (14, (24, 1, 6), stack[:3], 5))

    def test_calls_and_returns(self):
        text = "var x\nproc p\n  set x = x + 1\n  if 0\n    call p\n  end\nend\nmain\n  call p\n  repeat x\n    call p\n  end\nend"
        program = parse_program(text)
        self.assertEqual(free_run(program, {}, [1, 0], 7), (11, (2, 1), (1, 9), 2))
        self.assertEqual(free_run(program, {}, [1, 0], 10), (1, (2, 1), (), 2))
        self.assertEqual(free_run(program, {}, [1, 0, 1], 13), (6, (2, 1), ((2, 1), 4), 3))

    def test_the_stack_has_no_limit(self):
        program = parse_program("var x\nproc p\n  call p\nend\nmain\n  call p\nend")
        entry = program.entry("p")
        self.assertEqual(free_run(program, {}, (), 1000), (entry, (0, 1), (1, *[entry + 1] * 999), 0))

    def test_random_runs(self):
        rng = random.Random(14)
        made = 0
        while made < 300:
            program = lively_program(rng)
            if made % 3 == 0:
                try:
                    program = Program(*random_parts(rng))
                except ValueError:
                    continue
            made += 1
            start = {name: rng.randrange(-10**20, 10**20) for name in program.given}
            run = FractionRun(program, start, rng)
            steps = 0
            while program.code[run.address] != ("stop",) and steps < 60:
                run.step()
                steps += 1
                if rng.randrange(5) == 0 or steps == 60:
                    self.assertEqual(free_run(program, start, run.choices + [77, 88], steps), run.expected())
            _, vector, _, _ = free_run(program, start, tuple(run.choices), steps)
            self.assertEqual(gcd(*vector), 1)


class ErrorsTest(unittest.TestCase):
    program = parse_program("given a\nvar x\nmain\n  set x = read\n  if x\n    repeat 3\n    end\n  end\n  print read\nend")

    def check(self, error, field, value, *arguments):
        with self.assertRaises(error) as caught:
            free_run(*arguments)
        self.assertIs(type(caught.exception), error)
        self.assertIs(getattr(caught.exception, field), value)

    def test_order(self):
        self.check(InvalidProgram, "part", None, None, None, None, None)
        self.check(InvalidValues, "value", None, self.program, None, None, None)
        self.check(InvalidChoices, "position", None, self.program, {"a": 1}, None, None)
        self.check(InvalidChoices, "position", 1, self.program, {"a": 1}, [5, None], None)
        self.check(InvalidCount, "value", None, self.program, {"a": 1}, [], None)
        self.check(InvalidChoices, "position", 0, self.program, {"a": 1}, [], 1)

    def test_values(self):
        for wrong in ({}, {"a": True}, {"x": 0}, {"a": 1, "x": 0}, [("a", 1)], {"a": "1"}, ("a",), {"a": None}):
            self.check(InvalidValues, "value", wrong, self.program, wrong, [], 0)

    def test_choices(self):
        for wrong in (None, 1, "01", {1: 1}, range(2), {1}):
            self.check(InvalidChoices, "position", None, self.program, {"a": 1}, wrong, 0)
        for wrong, position in (([True], 0), ([0, False], 1), ((0, 1, "1", None), 2), ([1.0], 0), ([0, [0]], 1)):
            self.check(InvalidChoices, "position", position, self.program, {"a": 1}, wrong, 0)

    def test_steps(self):
        for wrong in (-1, None, True, False, 1.0, "1", [1]):
            self.check(InvalidCount, "value", wrong, self.program, {"a": 1}, [], wrong)

    def test_a_choice_is_missing(self):
        good = [5, 1, 1, 0]
        needed = [1, 2, 2, 3, 3, 4, 4]
        for many in range(4):
            steps = needed.index(many + 1)
            free_run(self.program, {"a": 1}, good[:many], steps)
            for more in (1, 2, 50):
                self.check(InvalidChoices, "position", many, self.program, {"a": 1}, good[:many], steps + more)

    def test_a_choice_is_neither_0_nor_1(self):
        for wrong in (2, -1, 10**30):
            self.check(InvalidChoices, "position", 1, self.program, {"a": 1}, [5, wrong], 2)
            self.check(InvalidChoices, "position", 2, self.program, {"a": 1}, [5, 1, wrong], 4)
            # It is not looked at before it is taken.
            self.assertEqual(free_run(self.program, {"a": 1}, [5, 1, wrong], 3)[0], 3)
            self.assertEqual(free_run(self.program, {"a": 1}, [wrong], 1)[1], (1, wrong, 1))

    def test_stop(self):
        good = [5, 0]
        self.assertEqual(free_run(self.program, {"a": 1}, good, 4), (8, (1, 5, 1), (), 2))
        for more in ([], [0], [1, 0]):
            self.check(InvalidChoices, "position", 2, self.program, {"a": 1}, good + more, 5)
        self.check(InvalidChoices, "position", 0, one_variable(), {}, (), 1)

    def test_names_of_arguments(self):
        self.assertEqual(free_run(program=self.program, start={"a": 1}, choices=(2,), steps=1), (1, (1, 2, 1), (), 1))

    def test_arguments_stay_as_they_are(self):
        start, choices = {"a": 1}, [5, 0]
        free_run(self.program, start, choices, 4)
        self.assertEqual((start, choices), ({"a": 1}, [5, 0]))

    def test_great_divisors(self):
        program = one_variable(*[("set", "x", total(1, (1, "x"), by=10**299 + 1))] * 100)
        _, (_, m), _, _ = free_run(program, {}, (), 100)
        self.assertEqual(m, (10**299 + 1) ** 100)


if __name__ == "__main__":
    unittest.main()
