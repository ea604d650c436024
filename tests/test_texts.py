import random
import unittest

from frugaltape.errors import InvalidProgram
from frugaltape.programs import Program
from frugaltape.texts import format_program, parse_program
from samples import A, LONG, ONE, PAIRS, PRINT, SAMPLE, X, nested, one_variable, random_parts, total


class FormatTest(unittest.TestCase):
    def check(self, text, *statements):
        program = Program((), ("a", "x"), (("p", ()),), statements)
        expected = "\n".join(["var a x", "proc p", "end", "main", *["  " + line for line in text.split("\n")], "end"])
        self.assertEqual(format_program(program), expected)
        self.assertEqual(parse_program(expected), program)

    def check_expression(self, text, expression):
        self.check(f"print {text}", ("print", expression))
        self.check(f"set x = {text}", ("set", "x", expression))
        self.check(f"if {text}\nend", ("if", expression, (), ()))
        self.check(f"while {text}\nend", ("while", expression, ()))
        self.check(f"repeat {text}\nend", ("repeat", expression, ()))

    def check_sum(self, text, value):
        self.check_expression(text, value)
        for word in PAIRS:
            self.check_expression(f"{word}({text}, 1)", (word, value, ONE))
            self.check_expression(f"{word}(a, {text})", (word, A, value))

    def test_examples_of_the_interface(self):
        text = "given a\nvar x\nmain\n  set x = 2 * a + 1\n  set a = read\nend"
        program = parse_program(text)
        self.assertEqual(program.code, (("set", "x", ("sum", 1, ((2, "a"),), 1)), ("set", "a", ("read",)), ("stop",)))
        self.assertEqual(format_program(program), text)

    def test_names(self):
        self.assertEqual(format_program(Program(("b", "a"), (), (), ())), "given b a\nmain\nend")
        self.assertEqual(format_program(Program((), ("x",), (), ())), "var x\nmain\nend")
        self.assertEqual(format_program(Program(("b",), ("a", "sum"), (), ())), "given b\nvar a sum\nmain\nend")

    def test_constants(self):
        for number in (0, 1, -1, 7, -12, LONG, -LONG):
            self.check_sum(str(number), total(number))

    def test_terms(self):
        self.check_sum("x", X)
        self.check_sum("-x", total(0, (-1, "x")))
        self.check_sum("2 * x", total(0, (2, "x")))
        self.check_sum("-2 * x", total(0, (-2, "x")))
        self.check_sum("a + x", total(0, (1, "a"), (1, "x")))
        self.check_sum("-a - x", total(0, (-1, "a"), (-1, "x")))
        self.check_sum("3 * a - 4 * x", total(0, (3, "a"), (-4, "x")))
        self.check_sum("-3 * a + 4 * x", total(0, (-3, "a"), (4, "x")))

    def test_terms_and_constants(self):
        self.check_sum("x + 5", total(5, (1, "x")))
        self.check_sum("-x - 1", total(-1, (-1, "x")))
        self.check_sum("2 * a - x + 1", total(1, (2, "a"), (-1, "x")))
        self.check_sum(f"{LONG} * x - {LONG}", total(-LONG, (LONG, "x")))

    def test_divisors(self):
        self.check_sum("(x) / 2", total(0, (1, "x"), by=2))
        self.check_sum("(-x + 1) / 2", total(1, (-1, "x"), by=2))
        self.check_sum("(5) / 3", total(5, by=3))
        self.check_sum("(-5) / 3", total(-5, by=3))
        self.check_sum("(2 * a - 3 * x - 4) / 5", total(-4, (2, "a"), (-3, "x"), by=5))
        self.check_sum(f"(x) / {LONG}", total(0, (1, "x"), by=LONG))

    def test_free_expressions(self):
        self.check_expression("read", ("read",))
        for word in PAIRS:
            self.check_expression(f"{word}(-a + 1, (x) / 2)", (word, total(1, (-1, "a")), total(0, (1, "x"), by=2)))

    def test_statements(self):
        self.check("swap a x", ("swap", "a", "x"))
        self.check("swap x a", ("swap", "x", "a"))
        self.check("call p", ("call", "p"))
        self.check("print x\nprint x", ("print", X), ("print", X))

    def test_blocks(self):
        self.check("if x\nend", ("if", X, (), ()))
        self.check("if x\n  print 1\nend", ("if", X, (PRINT,), ()))
        self.check("if x\nelse\n  print 1\nend", ("if", X, (), (PRINT,)))
        self.check("if x\n  print 1\nelse\n  print 1\nend", ("if", X, (PRINT,), (PRINT,)))
        self.check("while x\n  print 1\nend", ("while", X, (PRINT,)))
        self.check("repeat x\n  print 1\n  print 1\nend\nprint 1", ("repeat", X, (PRINT, PRINT)), PRINT)
        self.check("while x\n  if a\n    repeat 1\n    end\n  else\n    swap a x\n  end\nend",
                   ("while", X, (("if", A, (("repeat", ONE, ()),), (("swap", "a", "x"),)),)))

    def test_procedures(self):
        procedures = (("q", (("call", "p"), PRINT)), ("p", ()), ("x", (("while", X, (PRINT,)),)))
        program = one_variable(("call", "q"), procedures=procedures)
        text = ("var x\nproc q\n  call p\n  print 1\nend\nproc p\nend\n"
                "proc x\n  while x\n    print 1\n  end\nend\nmain\n  call q\nend")
        self.assertEqual(format_program(program=program), text)
        self.assertEqual(parse_program(text=text), program)

    def test_the_sample(self):
        program = parse_program(SAMPLE)
        self.assertEqual(format_program(program), SAMPLE)
        self.assertEqual((program.given, program.variables), (("a", "b"), ("x", "y")))
        self.assertEqual(program.main[4], ("if", total(12), (), ()))
        self.assertEqual(program.procedures[1], ("q", ()))

    def test_eight_blocks_deep(self):
        for word in ("if", "while", "repeat"):
            program = one_variable(*nested(8, (PRINT,), word))
            self.assertEqual(parse_program(format_program(program)), program)

    def test_random_programs(self):
        rng = random.Random(10)
        for _ in range(400):
            try:
                program = Program(*random_parts(rng))
            except InvalidProgram:
                continue
            self.assertEqual(parse_program(format_program(program)), program)

if __name__ == "__main__":
    unittest.main()
