import random
import unittest

from frugaltape import errors
from frugaltape.errors import InvalidCount, InvalidInputs, InvalidProgram, InvalidValues, RunError, StepLimit
from frugaltape.programs import Program
from frugaltape.running import execute
from frugaltape.texts import parse_program
from oracles import Walk
from samples import ONE, lively_program, lively_start, one_variable, text_of

BIG = 10**5000 + 7


def run(text, values=None, inputs=(), limit=10000):
    return execute(parse_program(text), values or {}, inputs, limit)


class ExecuteTest(unittest.TestCase):
    def check(self, lines, state, outputs, steps, inputs=()):
        """These lines of a main block over the variables a and x."""
        program = parse_program(text_of(*lines))
        self.assertEqual(execute(program, {}, inputs), (state, outputs, steps))

    def test_program_of_the_interface(self):
        text = "given a\nvar x\nmain\n  set x = 2 * a + 1\n  set a = read\nend"
        self.assertEqual(run(text, {"a": 5}, [7]), ({"a": 7, "x": 11}, (), 2))

    def test_kinds_of_the_result(self):
        state, outputs, steps = run("given a\nvar x\nmain\n  print a\nend", {"a": 5})
        self.assertIs(type(state), dict)
        self.assertIs(type(outputs), tuple)
        self.assertIs(type(steps), int)

    def test_empty_program(self):
        self.assertEqual(run("given a\nvar x\nmain\nend", {"a": -3}, (1, 2), 0), ({"a": -3, "x": 0}, (), 0))

    def test_set_swap_print(self):
        self.check(["set a = 7", "set x = a - 9", "swap a x", "print a", "print 3 * x", "swap x a"],
                   {"a": 7, "x": -2}, (-2, 21), 6)

    def test_sums_with_divisors(self):
        self.check(["set a = 7", "set x = (3 * a - 1) / 5", "print (-x) / 4", "print 0"],
                   {"a": 7, "x": 4}, (-1, 0), 4)

    def test_free_expressions(self):
        self.check(["set a = read", "print read", "print product(a, a + 1)", "print less(a, 5)", "print less(a, 4)",
                    "print same(a, 4)", "print same(a, 5)"], {"a": 4, "x": 0}, (9, 20, 1, 0, 1, 0), 7, (4, 9, 8))
        for one, other in ((7, 2), (-7, 2), (7, -2), (-7, -2), (6, 3), (0, -5)):
            self.check([f"print quotient({one}, {other})", f"print remainder({one}, {other})"],
                       {"a": 0, "x": 0}, (one // other, one % other), 2)

    def test_if(self):
        lines = ["set a = read", "if a", "  print 1", "  print 2", "else", "  print 3", "end", "print 4"]
        self.check(lines, {"a": 5, "x": 0}, (1, 2, 4), 6, [5])
        self.check(lines, {"a": -5, "x": 0}, (1, 2, 4), 6, [-5])
        self.check(lines, {"a": 0, "x": 0}, (3, 4), 5, [0])
        self.check(["if 0", "  print 3", "end"], {"a": 0, "x": 0}, (), 2)

    def test_while(self):
        lines = ["set a = read", "while a", "  print a", "  set a = a - 1", "end"]
        self.check(lines, {"a": 0, "x": 0}, (3, 2, 1), 1 + 1 + 3 * 4 + 1, [3])
        self.check(lines, {"a": 0, "x": 0}, (), 3, [0])
        self.check(["while read", "end"], {"a": 0, "x": 0}, (), 1 + 2 * 2 + 1, [4, -1, 0])

    def test_repeat(self):
        lines = ["repeat read", "  set a = a + 2", "  print a", "end"]
        for rounds in (-(10**40), -1, 0, 1, 2, 5):
            made = max(rounds, 0)
            self.check(lines, {"a": 2 * made, "x": 0}, tuple(range(2, 2 * made + 1, 2)), 2 + 4 * made, [rounds])

    def test_the_rounds_of_a_repeat_are_computed_once(self):
        self.check(["set a = 3", "repeat a", "  set a = a + 1", "  set x = a", "end"],
                   {"a": 6, "x": 6}, (), 1 + 2 + 3 * 4)

    def test_nested_loops(self):
        self.check(["repeat 3", "  set a = a + 1", "  repeat a", "    set x = x + 1", "    print x", "  end", "end"],
                   {"a": 3, "x": 6}, (1, 2, 3, 4, 5, 6), 2 + 3 * (2 + 1 + 2) + 6 * 4)

    def test_procedures(self):
        text = "\n".join(["var a x", "proc p", "  set a = a + 1", "  if less(a, 4)", "    call p", "  end", "  print a",
                          "end", "proc a", "  call p", "end", "main", "  call a", "end"])
        self.assertEqual(run(text), ({"a": 4, "x": 0}, (4, 4, 4, 4), 26))

    def test_numbers_of_any_size(self):
        text = "given a\nvar x\nmain\n  set x = (a - 7) / 2\n  print read\n  set a = 2 * a + 3 * x\nend"
        self.assertEqual(run(text, {"a": BIG}, [-BIG]), ({"a": 2 * BIG + 3 * (BIG - 7) // 2, "x": (BIG - 7) // 2}, (-BIG,), 3))
        self.assertEqual(run("given a\nmain\n  print quotient(a, 3)\n  print remainder(a, 1000)\nend", {"a": BIG})[1],
                         (BIG // 3, BIG % 1000))

    def test_random_programs(self):
        rng = random.Random(10)
        ends = set()
        for _ in range(500):
            program = lively_program(rng)
            values, inputs = lively_start(rng, program)
            walk = Walk(program, values, inputs)
            history, end = walk.history(1500)
            ends.add(end[0] if isinstance(end, tuple) else end)
            if end == "end":
                expected = (walk.state, tuple(walk.outputs), len(history) - 1)
                self.assertEqual(execute(program, values, inputs, len(history) - 1), expected)
                continue
            with self.assertRaises((RunError, StepLimit)) as caught:
                execute(program, values, inputs, 1500)
            if end is not None:
                self.assertEqual((type(caught.exception).__name__, caught.exception.address), end)
        self.assertLessEqual({"end", None, "Inexact", "NoInput", "TooDeep"}, ends)

    def test_great_quiet_loops_take_no_time(self):
        text = "given a\nvar x y\nmain\n  repeat a\n    set x = x + 1\n    set y = x + y\n  end\n  print y\nend"
        n = 10**60
        self.assertEqual(run(text, {"a": n}, (), 4 * n + 3), ({"a": n, "x": n, "y": n * (n + 1) // 2}, (n * (n + 1) // 2,),
                                                              4 * n + 3))
        for limit in (4 * n + 2, 4 * n - 5, 7):
            with self.assertRaises(StepLimit):
                run(text, {"a": n}, (), limit)


class RunErrorTest(unittest.TestCase):
    def check(self, word, address, lines, inputs=(), head="var a x"):
        with self.assertRaises(RunError) as caught:
            execute(parse_program(text_of(*lines, head=head)), {}, inputs)
        self.assertIs(type(caught.exception), getattr(errors, word))
        self.assertEqual(caught.exception.address, address)

    def everywhere(self, word, expression, inputs=()):
        """The expression fails at each kind of instruction that has one."""
        self.check(word, 1, ["set a = 0", f"set x = {expression}"], inputs)
        self.check(word, 1, ["set a = 0", f"print {expression}"], inputs)
        self.check(word, 1, ["set a = 0", f"if {expression}", "end"], inputs)
        self.check(word, 2, ["set a = 0", f"while {expression}", "end"], inputs)
        self.check(word, 1, ["set a = 0", f"repeat {expression}", "end"], inputs)

    def test_inexact(self):
        self.everywhere("Inexact", "(1) / 2")
        self.everywhere("Inexact", "(2 * x - 1) / 4")
        for word in ("product", "quotient", "remainder", "less", "same"):
            self.everywhere("Inexact", f"{word}((1) / 2, 1)")
            self.everywhere("Inexact", f"{word}(0, (x + 7) / 3)")

    def test_zero_divisor(self):
        self.everywhere("ZeroDivisor", "quotient(1, x)")
        self.everywhere("ZeroDivisor", "remainder(0, 0)")

    def test_no_input(self):
        self.everywhere("NoInput", "read")
        self.check("NoInput", 2, ["set a = read", "print read", "set x = read"], [1, 2])

    def test_too_large(self):
        nines = "9" * 300
        lines = [f"set a = {nines}", f"set x = product(a, -{nines})", "set a = a + 1"]
        program = parse_program(text_of(*lines))
        self.assertEqual(execute(program, {}, ())[0], {"a": 10**300, "x": -((10**300 - 1) ** 2)})
        for expression in ("product(a, 0)", "product(0, a)", "product(-a, 1)", "product(1, -a)"):
            self.check("TooLarge", 3, [*lines, f"print {expression}"])
        for word in ("quotient", "remainder", "less", "same"):
            execute(parse_program(text_of(*lines, f"print {word}(a, x)")), {}, ())

    def test_too_deep_at_a_call(self):
        program = Program((), ("x",), (("p", (("set", "x", ("sum", 1, ((1, "x"),), 1)), ("call", "p"))),), (("call", "p"),))
        with self.assertRaises(errors.TooDeep) as caught:
            execute(program, {}, (), 10**6)
        self.assertEqual(caught.exception.address, program.entry("p") + 1)

    def recursive(self, depth):
        """A program whose stack gets this many elements by calls."""
        lines = ["given a", "proc p", "  set a = a - 1", "  if a", "    call p", "  end", "end", "main", "  call p", "end"]
        return execute(parse_program("\n".join(lines)), {"a": depth}, (), 10**6)

    def test_exactly_400_elements(self):
        self.assertEqual(self.recursive(400)[0], {"a": 0})
        with self.assertRaises(errors.TooDeep):
            self.recursive(401)

    def test_too_deep_at_a_begin(self):
        for expression, inputs in ((ONE, ()), (("read",), [1] * 500)):
            inner = ("repeat", expression, (("call", "p"),))
            program = Program((), ("x",), (("p", (inner,)),), (inner,))
            with self.assertRaises(errors.TooDeep) as caught:
                execute(program, {}, inputs, 10**6)
            self.assertEqual(caught.exception.address, program.entry("p"))

    def deep(self, expression, inputs):
        """Which error there is if a `begin` with this expression meets a full stack."""
        inner = ("repeat", expression, (("call", "p"),))
        program = Program((), ("x",), (("p", (inner,)),), (("repeat", ONE, (("set", "x", ONE), ("call", "p"))),))
        with self.assertRaises(RunError) as caught:
            execute(program, {}, inputs, 10**6)
        return type(caught.exception)

    def test_errors_that_are_listed_first_are_raised(self):
        nines = "9" * 300
        wide = [f"set a = {nines}", "set a = a + 1"]
        for expression in ("product(a, (1) / 2)", "product((1) / 2, a)"):
            self.check("Inexact", 2, [*wide, f"print {expression}"])
        for expression in ("quotient((1) / 2, 0)", "remainder((a) / 7, 0)"):
            self.check("Inexact", 1, ["set a = 6", f"print {expression}"])
        self.assertIs(self.deep(("read",), [1] * 199), errors.NoInput)
        self.assertIs(self.deep(("read",), [1] * 200), errors.TooDeep)


class ArgumentsTest(unittest.TestCase):
    program = parse_program("given a b\nvar x\nmain\n  set x = read\nend")
    good = {"a": 1, "b": 2}

    def check(self, error, field, value, *arguments):
        with self.assertRaises(error) as caught:
            execute(*arguments)
        self.assertIs(type(caught.exception), error)
        self.assertIs(getattr(caught.exception, field), value)

    def test_program(self):
        for wrong in (None, 1, "main\nend", (), parse_program, Program):
            self.check(InvalidProgram, "part", None, wrong, {}, ())

    def test_values(self):
        for wrong in (None, {}, {"a": 1}, {"a": 1, "b": 2, "x": 0}, {"a": 1, "c": 2}, {"a": 1, "b": True},
                      {"a": 1, "b": None}, {"a": 1, "b": "2"}, {"a": 1, "b": 2.0}, {"a": 1, "b": [2]}, [1, 2], (1, 2),
                      [("a", 1), ("b", 2)], "ab", 12, {"a": 1, True: 2}, {"a": 1, b"b": 2}, {1: 1, 2: 2}):
            self.check(InvalidValues, "value", wrong, self.program, wrong, (1,))

    def test_inputs(self):
        for wrong in (None, 5, "12", {1: 2}, {1}, range(3), iter([1])):
            self.check(InvalidInputs, "position", None, self.program, self.good, wrong)
        for wrong, position in (([True], 0), ((1, False), 1), ([1, 2, None, "x"], 2), ([1.0], 0), (["1"], 0), ([[1]], 0)):
            self.check(InvalidInputs, "position", position, self.program, self.good, wrong)

    def test_limit(self):
        for wrong in (-1, -(10**400), None, True, False, "1", 1.0, [1]):
            self.check(InvalidCount, "value", wrong, self.program, self.good, (1,), wrong)

    def test_errors_that_are_listed_first_are_raised(self):
        self.check(InvalidProgram, "part", None, None, None, None, None)
        self.check(InvalidValues, "value", None, self.program, None, None, None)
        self.check(InvalidInputs, "position", None, self.program, self.good, None, None)
        self.check(InvalidCount, "value", None, self.program, self.good, (), None)

    def test_step_limit(self):
        text = "given a\nmain\n  while a\n    set a = a - 1\n  end\nend"
        for start in (0, 1, 5):
            steps = 2 + 3 * start
            self.assertEqual(run(text, {"a": start}, (), steps)[2], steps)
            for limit in range(steps):
                with self.assertRaises(StepLimit) as caught:
                    run(text, {"a": start}, (), limit)
                self.assertEqual(caught.exception.limit, limit)

    def test_default_limit(self):
        text = "given a\nmain\n  while a\n    set a = a - 1\n  end\nend"
        self.assertEqual(run(text, {"a": 3332})[2], 9998)
        program = parse_program(text)
        with self.assertRaises(StepLimit) as caught:
            execute(program, {"a": 3333}, ())
        self.assertEqual(caught.exception.limit, 10000)

    def test_a_step_beyond_the_limit_is_not_tried(self):
        program = one_variable(("set", "x", ONE), ("print", ("read",)))
        with self.assertRaises(StepLimit):
            execute(program, {}, (), 1)
        with self.assertRaises(errors.NoInput):
            execute(program, {}, (), 2)

    def test_names_of_arguments(self):
        expected = ({"a": 1, "b": 2, "x": 9}, (), 1)
        self.assertEqual(execute(program=self.program, values=self.good, inputs=(9,), limit=1), expected)
        self.assertEqual(execute(self.program, self.good, inputs=[9]), expected)

    def test_arguments_stay_as_they_are(self):
        values, inputs = {"b": 2, "a": 1}, [9, 8]
        state, _, _ = execute(self.program, values, inputs)
        state["a"] = 100
        self.assertEqual((values, inputs), ({"b": 2, "a": 1}, [9, 8]))
        self.assertEqual(execute(self.program, values, inputs)[0], {"a": 1, "b": 2, "x": 9})


if __name__ == "__main__":
    unittest.main()
