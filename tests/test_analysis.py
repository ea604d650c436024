import random
import time
import unittest

from frugaltape.analysis import Analysis
from frugaltape.errors import InvalidAddress, InvalidProgram, InvalidValues
from frugaltape.paths import free_run
from frugaltape.programs import Program
from frugaltape.spaces import Space
from frugaltape.texts import parse_program
from oracles import Spaces, equations
from samples import lively_program, limit_program, one_variable, text_of, total

FULL = ((1, 0, 0), (0, 1, 0), (0, 0, 1))


def analysed(*lines, head="given a\nvar x"):
    """The analysis of a program with these lines in its main block."""
    return Analysis(parse_program(text_of(*lines, head=head)))


class SpaceTest(unittest.TestCase):
    def check(self, analysis, address, *vectors):
        space = analysis.space(address)
        self.assertIs(type(space), Space)
        self.assertEqual(space, Space(space.width, vectors))

    def test_start(self):
        self.check(analysed(), 0, (1, 0, 0), (0, 0, 1))
        self.check(analysed(head="given a x"), 0, *FULL)
        self.check(analysed(head="var a x"), 0, (0, 0, 1))

    def test_copy(self):
        analysis = analysed("set x = a")
        self.check(analysis, 1, (1, 1, 0), (0, 0, 1))
        self.assertEqual(analysis.equations(1), ((1, -1, 0),))
        self.assertEqual(analysis.equations(0), ((0, 1, 0),))

    def test_divisor(self):
        analysis = analysed("set x = (3 * a - 1) / 6")
        self.check(analysis, 1, (0, -1, 6), (6, 2, 6))
        self.assertEqual(analysis.equations(1), ((3, -6, -1),))

    def test_example_of_the_interface(self):
        self.assertEqual(analysed("set x = 2 * a + 1", "set a = read").equations(1), ((2, -1, 1),))

    def test_free_expressions(self):
        for expression in ("read", "product(a, a)", "quotient(a, 2)", "remainder(1, 2)", "less(0, 1)", "same(a, x)"):
            analysis = analysed(f"set x = {expression}", "print x")
            self.check(analysis, 1, *FULL)
            self.assertEqual(analysis.equations(1), ())
            analysis = analysed(f"print {expression}", f"if {expression}", f"  repeat {expression}", "  end", "end")
            self.check(analysis, 4, (1, 0, 0), (0, 0, 1))

    def test_an_affine_relation_that_a_loop_keeps(self):
        lines = ["while read", "  set a = a + 1", "  set x = x + 2", "end"]
        analysis = analysed(*lines, head="var a x")
        for address in (1, 2, 4, 5):
            self.assertEqual(analysis.equations(address), ((2, -1, 0),))
        self.assertEqual(analysis.equations(0), ((1, 0, 0), (0, 1, 0)))
        self.assertEqual(analysis.equations(3), ((2, -1, -2),))

    def test_a_loop_count_that_is_not_given(self):
        lines = ["repeat read", "  set a = a + 3", "  swap a x", "end"]
        analysis = analysed(*lines, head="var a x")
        self.check(analysis, 1, (3, 0, 0), (0, 3, 0), (0, 0, 1))
        self.check(analysis, 5, *FULL)

    def test_swap(self):
        analysis = analysed("set x = 7", "swap a x")
        self.check(analysis, 1, (1, 0, 0), (0, 7, 1))
        self.check(analysis, 2, (0, 1, 0), (7, 0, 1))

    def test_branches_that_meet(self):
        analysis = analysed("if read", "  set x = 1", "else", "  set x = 2 * a", "end", "print x")
        self.check(analysis, 2, (1, 0, 0), (0, 1, 1))
        self.check(analysis, 4, (1, 2, 0), (0, 0, 1))
        self.check(analysis, 5, *FULL)

    def test_a_procedure_that_doubles(self):
        text = "given a\nvar x\nproc p\n  set x = 2 * x\nend\nmain\n  set x = a\n  call p\n  call p\n  call p\nend"
        analysis = Analysis(parse_program(text))
        for address in range(1, 5):
            self.check(analysis, address, (1, 2 ** (address - 1), 0), (0, 0, 1))
        self.check(analysis, 5, *FULL)
        # At its entry, x may be a, 2 a or 4 a.
        self.assertEqual(analysis.ways(5).basis, Space(9, [(1, 0, 0, 0, 1, 0, 0, 0, 1)]).basis)
        self.assertEqual(analysis.ways(6).basis, Space(9, [(1, 0, 0, 0, 2, 0, 0, 0, 1)]).basis)

    def test_recursion(self):
        text = "\n".join(["given a", "var x", "proc p", "  set a = a + 1", "  set x = x - 3", "  if read", "    call p",
                          "    call p", "  end", "  set x = x + 2", "end", "main", "  set a = 0", "  call p", "end"])
        analysis = Analysis(parse_program(text))
        # Each call adds 1 to a and takes 1 from x in all, and 3 from x before its end.
        self.assertEqual(analysis.equations(2), ((1, 1, 0),))
        self.assertEqual(analysis.equations(3), ())
        self.assertEqual([len(analysis.ways(address)) for address in (3, 4, 6, 7, 8, 10)], [1, 1, 1, 2, 2, 2])
        self.assertEqual(analysis.ways(11), Space(9, [(1, 0, 1, 0, 1, -1, 0, 0, 1), (0, 0, 1, 0, 0, -1, 0, 0, 0)]))

    def test_code_that_no_free_run_reaches(self):
        text = "\n".join(["given a", "var x", "proc p", "  call p", "  set x = 1", "end", "proc q", "  set x = a", "end",
                          "main", "  if read", "    call p", "    set x = 3", "  end", "  print x", "end"])
        analysis = Analysis(parse_program(text))
        for address in (2, 3, 8, 9, 10, 11):
            self.check(analysis, address)
            self.assertEqual(len(analysis.space(address)), 0)
            self.assertEqual(analysis.equations(address), FULL)
            self.assertIs(analysis.fits(address, {"a": 0, "x": 0}), False)
        for address in (0, 1, 4, 5, 6, 7):
            self.check(analysis, address, (1, 0, 0), (0, 0, 1))
        for address in (2, 3, 8, 10):
            self.check_after(analysis, address)
        for address in (8, 9):
            self.assertEqual(analysis.ways(address), Space(9))
        # The procedure q is never called, but it has ways.
        self.assertEqual(analysis.ways(10), Space(9, [(1, 0, 0, 0, 1, 0, 0, 0, 1)]))
        self.assertEqual(analysis.ways(11), Space(9, [(1, 0, 0, 1, 0, 0, 0, 0, 1)]))

    def check_after(self, analysis, address, *vectors):
        self.assertEqual(analysis.after(address), Space(3, vectors))

    def test_after(self):
        lines = ["set x = a", "swap a x", "print x", "if x", "  set x = read", "end", "while a", "end", "repeat 1", "end"]
        analysis = analysed(*lines)
        line = ((1, 1, 0), (0, 0, 1))
        for address in (0, 1, 2, 3, 6):
            self.check_after(analysis, address, *line)
        for address in (4, 5, 7, 8, 9, 10, 11, 12):
            self.check_after(analysis, address, *FULL)

    def test_after_calls_and_returns(self):
        text = "given a\nvar x\nproc p\n  set x = a\nend\nmain\n  call p\n  set a = 0\n  call p\nend"
        analysis = Analysis(parse_program(text))
        self.check_after(analysis, 0, (1, 0, 0), (0, 0, 1))
        self.check_after(analysis, 1, (0, 1, 0), (0, 0, 1))
        self.check_after(analysis, 2, (0, 1, 0), (0, 0, 1))
        self.check_after(analysis, 4, (1, 1, 0), (0, 0, 1))
        self.check_after(analysis, 5, (1, 1, 0), (0, 0, 1))

    def test_open_space(self):
        lines = ["repeat 2 * a + 1", "  set a = read", "  repeat (a + 1) / 3", "    set x = 5", "  end", "end", "print a"]
        analysis = analysed(*lines)
        self.assertEqual(analysis.open_space(0), Space(3, [(1, 0, 0), (0, 0, 1)]))
        self.assertEqual(analysis.open_space(3).width, 4)
        self.assertEqual(analysis.open_space(4).width, 5)
        # The value of the first loop stays what it was when a was read again.
        self.assertEqual(len(analysis.open_space(2)), 4)
        self.assertEqual((~analysis.open_space(4)).basis, ((1, 0, 0, -3, 1),))
        self.assertEqual((~analysis.open_space(5)).basis, ((1, 0, 0, -3, 1),))
        self.assertEqual((~analysis.open_space(6)).basis, ((1, 0, 0, -3, 1), (0, 1, 0, 0, -5)))
        self.assertEqual((~analysis.open_space(7)).basis, ())
        self.assertEqual(analysis.open_space(8).width, 3)

    def test_open_space_in_a_procedure(self):
        text = "\n".join(["given a", "proc p", "  set a = a + 1", "  repeat a", "    call p", "  end", "end",
                          "main", "  repeat a", "    set a = 9", "    call p", "  end", "end"])
        analysis = Analysis(parse_program(text))
        widths = [analysis.open_space(address).width for address in range(12)]
        self.assertEqual(widths, [2, 3, 3, 3, 3, 2, 2, 2, 3, 3, 3, 2])
        self.assertEqual(analysis.open_space(1).basis, FULL)
        self.assertEqual(len(analysis.open_space(4)), 3)
        self.assertEqual(analysis.open_space(8).basis, FULL)

    def test_ways_of_a_swap(self):
        text = "given a\nvar x\nproc p\n  swap a x\n  if 0\n    set a = x\n  end\nend\nmain\nend"
        analysis = Analysis(parse_program(text))
        unit, swap, copy = (1, 0, 0, 0, 1, 0, 0, 0, 1), (0, 1, 0, 1, 0, 0, 0, 0, 1), (1, 0, 0, 1, 0, 0, 0, 0, 1)
        self.assertEqual(analysis.ways(1), Space(9, [unit]))
        self.assertEqual(analysis.ways(2), Space(9, [swap]))
        self.assertEqual(analysis.ways(4), Space(9, [copy]))
        self.assertEqual(analysis.ways(6), Space(9, [swap, copy]))

    def test_fits(self):
        analysis = analysed("set x = 2 * a + 1", "set a = read")
        for a, x in ((0, 1), (3, 7), (-2, -3), (10**400, 2 * 10**400 + 1)):
            self.assertIs(analysis.fits(1, {"x": x, "a": a}), True)
            self.assertIs(analysis.fits(1, {"a": a, "x": x + 1}), False)
            self.assertIs(analysis.fits(2, {"a": a, "x": x + 1}), True)
        self.assertIs(analysis.fits(0, {"a": 9, "x": 0}), True)
        self.assertIs(analysis.fits(0, {"a": 9, "x": 1}), False)


class OracleTest(unittest.TestCase):
    def check(self, program):
        analysis, spaces = Analysis(program), Spaces(program)
        main = program.code.index(("stop",))
        k = len(program.names)
        for address, instruction in enumerate(program.code):
            self.assertEqual(analysis.space(address), Space(k + 1, spaces.basis(address)))
            self.assertEqual(analysis.space(address).basis, spaces.basis(address))
            self.assertEqual(analysis.open_space(address).basis, spaces.open_basis(address))
            self.assertEqual(analysis.equations(address), equations(k + 1, spaces.basis(address)))
            if instruction[0] in ("set", "swap"):
                self.assertEqual(analysis.after(address).basis, spaces.after_basis(address))
            elif instruction != ("stop",):
                self.assertEqual(analysis.after(address).basis, spaces.basis(address))
            if address > main:
                self.assertEqual(analysis.ways(address).width, (k + 1) ** 2)
                self.assertEqual(analysis.ways(address).basis, spaces.ways_basis(address))

    def test_random_programs(self):
        rng = random.Random(15)
        made = 0
        while made < 150:
            program = lively_program(rng, 3 if made % 5 else 4)
            if len(program.code) <= 25:
                self.check(program)
                made += 1

    def test_factors_that_are_prime_numbers_or_products_of_them(self):
        # Residues by one of these numbers alone would not tell what is independent.
        one, other = 2**127 - 1, 2**521 - 1
        for factors in ((one,), (other,), (one, other), (one * other,) if one * other < 10**300 else (one, one), (2**607 - 1,)):
            changes = tuple(("set", "x", total(1, (factor, "x"))) for factor in factors)
            body = (("while", ("read",), changes), ("if", ("read",), (("call", "p"),), ()))
            self.check(Program(("a",), ("x",), (("p", body),), (("call", "p"), ("set", "a", total(0, (factors[0], "x"))))))

    def test_free_runs_stay_in_the_spaces(self):
        rng = random.Random(13)
        for _ in range(60):
            program = lively_program(rng)
            analysis = Analysis(program)
            choices = [rng.randrange(2) for _ in range(40)]
            start = {name: rng.randrange(-9, 9) for name in program.given}
            for steps in range(40):
                try:
                    address, vector, _, _ = free_run(program, start, choices, steps)
                except ValueError:
                    break
                self.assertIn(vector, analysis.space(address))


class TimeTest(unittest.TestCase):
    def test_programs_at_the_limits(self):
        rng = random.Random(7)
        for long in (False,) * 6 + (True,):
            program = limit_program(rng, long)
            start = time.process_time()
            analysis = Analysis(program)
            for address in range(len(program.code)):
                analysis.space(address)
                analysis.open_space(address)
                if not long and address > program.code.index(("stop",)):
                    analysis.ways(address)
            self.assertLess(time.process_time() - start, 20)

    def test_numbers_of_single_runs_would_have_very_many_digits(self):
        # Following calls as deep as they go would double the digits with each of them.
        double = (("set", "x", total(1, (3, "x"))), ("call", "p"), ("set", "a", total(0, (1, "a"), (2, "x"))), ("call", "p"))
        single = (("set", "y", total(5, (1, "a"), (7, "x"))),)
        program = Program(("a",), ("x", "y"), (("p", (("if", ("read",), double, single),)),), (("call", "p"), ("call", "p")))
        start = time.process_time()
        analysis = Analysis(program)
        self.assertLess(time.process_time() - start, 5)
        # Whatever else happens, p ends with this.
        self.assertEqual(analysis.equations(1), ((1, 7, -1, 5),))

    def test_a_long_chain_of_calls(self):
        names = ("p", "q", "r", "s")
        blocks = [(name, (("call", after), ("call", after))) for name, after in zip(names, names[1:])]
        last = ("s", tuple(("set", "x", total(10**299 + 1, (10**299 - 1, "x"), by=10**298 + 9)) for _ in range(20)))
        program = Program((), ("x",), (*blocks, last), (("call", "p"), ("call", "p")))
        start = time.process_time()
        analysis = Analysis(program)
        self.assertEqual(len(analysis.space(2)), 1)
        self.assertLess(time.process_time() - start, 20)


class ErrorsTest(unittest.TestCase):
    program = parse_program("given a\nvar x\nproc p\n  set x = a\nend\nmain\n  call p\nend")
    wrong = (-1, 4, 10**30, True, False, None, "0", 0.0, (0,), [0], {})

    def check(self, error, value, call, *arguments):
        with self.assertRaises(error) as caught:
            call(*arguments)
        self.assertIs(type(caught.exception), error)
        self.assertIs(caught.exception.value, value)

    def test_program(self):
        for wrong in (None, 1, "main\nend", (), Program, self.program.code):
            with self.assertRaises(InvalidProgram) as caught:
                Analysis(wrong)
            self.assertIsNone(caught.exception.part)

    def test_addresses(self):
        analysis = Analysis(self.program)
        calls = (analysis.space, analysis.open_space, analysis.after, analysis.ways, analysis.equations, analysis.decision)
        for wrong in self.wrong:
            for call in calls:
                self.check(InvalidAddress, wrong, call, wrong)
            self.check(InvalidAddress, wrong, analysis.fits, wrong, {"a": 0, "x": 0})
            self.check(InvalidAddress, wrong, analysis.fits, wrong, None)

    def test_after_stop(self):
        self.check(InvalidAddress, 1, Analysis(self.program).after, 1)
        Analysis(self.program).after(3)

    def test_ways_of_main(self):
        for address in (0, 1):
            self.check(InvalidAddress, address, Analysis(self.program).ways, address)
        Analysis(self.program).ways(2)
        for address in (0, 1):
            self.check(InvalidAddress, address, Analysis(one_variable(("print", ("read",)))).ways, address)

    def test_values(self):
        analysis = Analysis(self.program)
        for wrong in (None, {}, {"a": 1}, {"a": 1, "x": True}, {"a": 1, "x": 1, "y": 1}, {"a": 1, "y": 1}, (1, 1), "ax",
                      {"a": 1, "x": None}, {"a": 1, "x": "1"}, [("a", 1), ("x", 1)]):
            for address in (0, 3):
                self.check(InvalidValues, wrong, analysis.fits, address, wrong)

    def test_names_of_arguments(self):
        analysis = Analysis(program=self.program)
        for name in ("space", "open_space", "after", "ways", "equations", "decision"):
            self.assertEqual(getattr(analysis, name)(address=3), getattr(analysis, name)(3))
        self.assertIs(analysis.fits(address=1, values={"a": 4, "x": 4}), True)

    def test_equal_calls_return_equal_results(self):
        analysis = Analysis(self.program)
        for address in (2, 3):
            for name in ("space", "open_space", "after", "ways", "equations", "decision"):
                self.assertEqual(getattr(analysis, name)(address), getattr(analysis, name)(address))
                self.assertEqual(getattr(Analysis(self.program), name)(address), getattr(analysis, name)(address))


if __name__ == "__main__":
    unittest.main()
