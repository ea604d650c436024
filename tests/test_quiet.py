import random
import unittest

from frugaltape.errors import InvalidAddress, InvalidCount, InvalidProgram, InvalidValues
from frugaltape.programs import Program
from frugaltape.quiet import after_rounds, is_quiet
from frugaltape.running import execute
from frugaltape.texts import parse_program
from samples import ONE, X, short_sum, text_of, total

N = 10**35 + 12345


def loop(*lines, head="given a b\nvar x", rounds="read"):
    """A program whose main block is a loop with these lines in its block."""
    return parse_program(text_of(f"repeat {rounds}", *["  " + line for line in lines], "end", head=head))


class QuietTest(unittest.TestCase):
    def quiet(self, *lines, head="given a b\nvar x", rounds="read"):
        self.assertIs(is_quiet(loop(*lines, head=head, rounds=rounds), 0), True)

    def loud(self, *lines, head="given a b\nvar x", rounds="read"):
        self.assertIs(is_quiet(loop(*lines, head=head, rounds=rounds), 0), False)

    def test_quiet_loops(self):
        self.quiet()
        self.quiet("set x = x + 1")
        self.quiet("set a = a - 7", "set x = a + x", "set b = -5 * a + b + 3 * x")
        self.quiet("swap a b", "swap b a")
        self.quiet("swap a b", "swap x a", "swap b x", "swap x a")
        self.quiet("set x = -x + 3", "set x = -x + 8")
        self.quiet("set x = a + b + x", f"set a = a + {10**299}")
        # One of two exchanges changes the sign that the other one changed.
        self.quiet("swap a b", "set a = -a", "swap a b", "set b = -b")

    def test_any_expression_may_tell_the_rounds(self):
        for rounds in ("0", "-4", "a", "(a + 1) / 2", "read", "product(a, a)", "quotient(a, 0)", "less(1, 2)", "same(a, b)",
                       "remainder(a, 2)"):
            self.quiet("set x = x + 1", rounds=rounds)

    def test_loops_with_other_statements(self):
        for lines in (["print x"], ["call p"], ["if x", "end"], ["while x", "end"], ["repeat 1", "end"]):
            self.loud(*lines, head="given a b\nvar x\nproc p\nend")
            self.loud("set x = x + 1", *lines, "set a = a + x", head="given a b\nvar x\nproc p\nend")

    def test_loops_with_free_expressions(self):
        for expression in ("read", "product(x, 1)", "quotient(x, 1)", "remainder(x, 2)", "less(x, a)", "same(x, x)"):
            self.loud(f"set x = {expression}")
            self.loud("set a = a + 1", f"set x = {expression}")

    def test_loops_with_divisors(self):
        self.loud("set x = (2 * x + 1) / 2")
        self.loud("set x = 2 * x", "set x = (x) / 2")

    def test_matrices_that_do_not_satisfy_the_condition(self):
        self.loud("set x = 2 * x")
        self.loud("set x = 0")
        self.loud("set x = a")
        self.loud("set x = -x")
        self.loud("swap a b")
        self.loud("swap a b", "swap b x")
        self.loud("set a = a + b", "set b = a + b")
        self.loud("set a = a + x", "swap a x")
        # The product of the factors is 1, but the condition does not hold.
        self.loud("set a = a + b", "swap a b", "set a = -a")

    def test_a_long_way_to_0(self):
        head = "given a b c\nvar x"
        chain = ["set a = a + b", "set b = b + c", "set c = c + x", "set x = x + 1"]
        self.quiet(*chain, head=head)
        self.quiet(*chain[::-1], head=head)
        self.quiet(*chain, *chain, head=head)
        self.loud(*chain, "set x = a + x", head=head)

    def test_no_begin(self):
        program = parse_program(text_of("set x = 1", "repeat 2", "  set x = x + 1", "end", "while 0", "end", head="var x"))
        self.assertEqual([is_quiet(program, address) for address in range(len(program.code))],
                         [address == 1 for address in range(len(program.code))])

    def test_loops_in_loops_and_procedures(self):
        lines = ["var x", "proc p", "  repeat 3", "    set x = x + 1", "  end", "end", "main", "  repeat 2", "    repeat x",
                 "      set x = x - 1", "    end", "  end", "end"]
        program = parse_program("\n".join(lines))
        self.assertEqual([address for address in range(len(program.code)) if is_quiet(program, address)], [2, 8])

    def test_random_loops(self):
        rng = random.Random(22)
        names = ["a", "b", "c"]
        found = {True: 0, False: 0}
        for _ in range(400):
            block = tuple(self.statement(rng, names) for _ in range(rng.randrange(5)))
            program = Program(tuple(names), (), (), (("repeat", ("read",), block),))
            quiet = is_quiet(program, 0)
            found[quiet] += 1
            self.assertIs(quiet, self.condition(names, block))
            values = {name: rng.randrange(-99, 99) for name in names}
            rounds = rng.randrange(12)
            if quiet:
                after, _, _ = execute(program, values, [rounds])
                self.assertEqual(after_rounds(program, 0, values, rounds), after)
                self.assertEqual(after_rounds(program, 0, after, -rounds), values)
        self.assertGreater(min(found.values()), 60)

    def statement(self, rng, names):
        if rng.randrange(5) == 0:
            return ("swap", *rng.sample(names, 2))
        name = rng.choice(names)
        if rng.randrange(8) == 0:
            return ("set", name, short_sum(rng, names))
        others = [(rng.choice((1, 2, -3)), other) for other in names if other != name and rng.randrange(3) == 0]
        return ("set", name, ("sum", rng.randrange(-3, 4), tuple(sorted([(rng.choice((1, 1, -1)), name), *others],
                                                                         key=lambda term: term[1])), 1))

    def condition(self, names, block):
        """Whether the difference of neighbouring states vanishes when differences are taken often enough."""
        if any(part[0] == "set" and (part[2][0] != "sum" or part[2][3] != 1) for part in block):
            return False
        for start in range(len(names) + 1):
            state = {name: int(at == start) for at, name in enumerate(names)}
            rows = []
            for _ in range(len(names) + 2):
                rows.append([state[name] for name in names])
                state = execute(Program(tuple(names), (), (), block), state, ())[0]
            while len(rows) > 1:
                rows = [[y - x for x, y in zip(*pair)] for pair in zip(rows, rows[1:])]
            if any(rows[0]):
                return False
        return True


class AfterRoundsTest(unittest.TestCase):
    program = loop("set a = a + 1", "set b = a + b", "set x = b + x")

    def test_small_numbers_of_rounds(self):
        state = {"a": 5, "b": -3, "x": 100}
        for rounds in range(30):
            a = 5 + rounds
            b = -3 + sum(5 + i for i in range(1, rounds + 1))
            self.assertEqual((state["a"], state["b"]), (a, b))
            self.assertEqual(after_rounds(self.program, 0, {"a": 5, "b": -3, "x": 100}, rounds), state)
            self.assertEqual(after_rounds(self.program, 0, state, -rounds), {"a": 5, "b": -3, "x": 100})
            state = after_rounds(self.program, 0, state, 1)

    def test_great_numbers_of_rounds(self):
        start = {"a": 0, "b": 0, "x": 0}
        for n in (N, 10**99 + 7, -N):
            after = after_rounds(self.program, 0, start, n)
            self.assertEqual(after, {"a": n, "b": n * (n + 1) // 2, "x": n * (n + 1) * (n + 2) // 6})
            self.assertEqual(after_rounds(self.program, 0, after, -n), start)
            self.assertEqual(after_rounds(self.program, 0, after, 1 - n), after_rounds(self.program, 0, start, 1))

    def test_great_values(self):
        a = 10**4500 + 1
        self.assertEqual(after_rounds(self.program, 0, {"a": a, "b": 0, "x": 0}, 2), {"a": a + 2, "b": 2 * a + 3, "x": 3 * a + 4})

    def test_four_variables(self):
        program = loop("set x = b + x", "set b = a + b", "set a = a + c", "set c = c + 1", head="given a b c x")
        values = {"a": 1, "b": 2, "c": 3, "x": 4}
        state = dict(values)
        for rounds in range(40):
            self.assertEqual(after_rounds(program, 0, values, rounds), state)
            state = {"x": state["x"] + state["b"], "b": state["b"] + state["a"], "a": state["a"] + state["c"],
                     "c": state["c"] + 1}
        self.assertEqual(after_rounds(program, 0, after_rounds(program, 0, values, N), -N), values)

    def test_an_empty_block(self):
        values = {"a": 1, "b": 2, "x": 3}
        self.assertEqual(after_rounds(loop(), 0, values, N), values)
        self.assertEqual(after_rounds(loop("swap a b", "swap a b"), 0, values, -N), values)

    def test_results_are_new_and_arguments_stay(self):
        values = {"x": 3, "b": 2, "a": 1}
        for rounds in (0, 5):
            found = after_rounds(self.program, 0, values, rounds)
            self.assertIsNot(found, values)
            found["a"] = 99
            self.assertEqual(values, {"a": 1, "b": 2, "x": 3})

    def test_names_of_arguments(self):
        self.assertIs(is_quiet(program=self.program, address=0), True)
        values = {"a": 0, "b": 0, "x": 0}
        self.assertEqual(after_rounds(program=self.program, address=0, values=values, rounds=1), {"a": 1, "b": 1, "x": 1})


class ErrorsTest(unittest.TestCase):
    program = loop("set x = x + 1")
    good = {"a": 1, "b": 2, "x": 3}

    def check(self, error, field, value, call, *arguments):
        with self.assertRaises(error) as caught:
            call(*arguments)
        self.assertIs(type(caught.exception), error)
        self.assertIs(getattr(caught.exception, field), value)

    def test_programs(self):
        for wrong in (None, "main\nend", 1, Program, self.program.code):
            self.check(InvalidProgram, "part", None, is_quiet, wrong, None)
            self.check(InvalidProgram, "part", None, after_rounds, wrong, None, None, None)

    def test_addresses(self):
        for wrong in (-1, 5, True, False, None, "0", 0.0, (0,), [0], 10**50):
            self.check(InvalidAddress, "value", wrong, is_quiet, self.program, wrong)
            self.check(InvalidAddress, "value", wrong, after_rounds, self.program, wrong, None, None)

    def test_loops_that_are_not_quiet(self):
        for address in range(1, 5):
            self.check(InvalidAddress, "value", address, after_rounds, self.program, address, None, None)
        for lines in (["set x = 2 * x"], ["set x = read"], ["print x"]):
            self.check(InvalidAddress, "value", 0, after_rounds, loop(*lines), 0, self.good, 1)
        self.check(InvalidAddress, "value", 0, after_rounds, Program((), ("x",), (), (("set", "x", ONE),)), 0, {"x": 1}, 1)

    def test_values(self):
        for wrong in (None, {}, {"a": 1, "b": 2}, {"a": 1, "b": 2, "x": True}, {"a": 1, "b": 2, "y": 3}, (1, 2, 3), "abx",
                      {"a": 1, "b": 2, "x": 3, "y": 4}, {"a": 1, "b": 2, "x": "3"}):
            self.check(InvalidValues, "value", wrong, after_rounds, self.program, 0, wrong, None)

    def test_rounds(self):
        for wrong in (None, True, False, 1.0, "1", (1,), [1]):
            self.check(InvalidCount, "value", wrong, after_rounds, self.program, 0, self.good, wrong)

    def test_the_number_of_rounds_that_the_program_would_make_does_not_matter(self):
        program = Program((), ("x",), (), (("repeat", total(-3), (("set", "x", total(1, (1, "x"))),)), ("print", X)))
        self.assertEqual(after_rounds(program, 0, {"x": 0}, 5), {"x": 5})


if __name__ == "__main__":
    unittest.main()
