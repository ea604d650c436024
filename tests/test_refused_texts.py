import unittest

from frugaltape.errors import ParseError
from frugaltape.texts import format_program, parse_program
from samples import LONG, PAIRS, SAMPLE, text_of, total


class RefusingCase(unittest.TestCase):
    def check(self, text):
        """The text is refused."""
        with self.assertRaises(ParseError) as caught:
            parse_program(text)
        line = caught.exception.line
        self.assertIsInstance(line, int)
        self.assertTrue(0 <= line <= len(text.split("\n")), line)

    def check_lines(self, *lines):
        self.check(text_of(*lines))

    def check_other(self, text):
        """The text is refused, or that of another program."""
        try:
            program = parse_program(text)
        except ParseError as error:
            self.assertIsInstance(error.line, int)
            self.assertTrue(0 <= error.line <= len(text.split("\n")), error.line)
        else:
            self.assertEqual(format_program(program), text)

    def check_expressions(self, *texts):
        for text in texts:
            for line in (f"print {text}", f"set x = {text}"):
                self.check_lines(line)
            for line in (f"if {text}", f"while {text}", f"repeat {text}"):
                self.check_lines(line, "end")

    def check_sums(self, *texts):
        for text in texts:
            self.check_expressions(text, f"product({text}, 1)", f"less(1, {text})")


class RefusedTest(RefusingCase):
    def test_what_is_no_string(self):
        for text in (None, 1, True, b"var x\nmain\nend", ["var x", "main", "end"], ("main",), {}, parse_program(SAMPLE)):
            with self.assertRaises(ParseError) as caught:
                parse_program(text)
            self.assertIsNone(caught.exception.line)

    def test_a_text_that_ends_too_early(self):
        lines = SAMPLE.split("\n")
        for count in range(1, len(lines)):
            with self.assertRaises(ParseError) as caught:
                parse_program("\n".join(lines[:count]))
            self.assertEqual(caught.exception.line, count)

    def test_a_program_that_is_invalid_as_a_whole(self):
        call = "  call p\n" * 9
        for text in ("main\nend", f"var x\nproc p\nend\nmain\n{call}end", text_of(*["print 1"] * 120),
                     text_of("call q"), "given a b c\nvar x y\nmain\nend", "given a\nvar a\nmain\nend",
                     "var x\nproc p\nend\nproc p\nend\nmain\nend",
                     "var x\n" + "".join(f"proc {name}\nend\n" for name in "pqrstuv") + "main\nend"):
            with self.assertRaises(ParseError) as caught:
                parse_program(text)
            self.assertEqual(caught.exception.line, len(text.split("\n")))

    def test_the_line_of_a_wrong_statement(self):
        for line in ("set q = 1", "swap a a", "print 01", "call Q", "stop", "print (2 * x) / 2", "while", "end", "  print 1"):
            with self.assertRaises(ParseError) as caught:
                parse_program(text_of("print 1", line, "print 1"))
            self.assertEqual(caught.exception.line, 3)

    def test_the_line_of_a_wrong_name(self):
        for text, line in (("given a A\nvar x\nmain\nend", 0), ("given a\nvar x x\nmain\nend", 1),
                           ("var x\nproc p\nend\nproc P\nend\nmain\nend", 3), ("var x\nmain\n  if x\n  else\n  end\nend", 4)):
            with self.assertRaises(ParseError) as caught:
                parse_program(text)
            self.assertEqual(caught.exception.line, line)

    def test_wrong_beginnings(self):
        for head in ("given", "var", "given ", "var ", "var  x", " var x", "var x ", "var x  a", "var a a", "var X", "var if",
                     "var x\ngiven a", "var x\nvar a", "given x\ngiven a", "\nvar x", "var x\n", "# x\nvar x", "var\tx",
                     "Var x", "var abcdefghi", "var x,a"):
            self.check(f"{head}\nmain\nend")
        self.check("")
        self.check("\n")
        self.check("end")
        self.check("main")

    def test_wrong_ends(self):
        good = text_of("print x")
        for text in (good + "\n", good + " ", good + "\nend", good + "\nmain\nend", good + "\n\n", "\n" + good, " " + good,
                     good + "\nproc p\nend", good.replace("\n", "\r\n"), good.replace("\n", "\r"), good + "\r",
                     good.replace("\n", "\x0b"), good.replace("\n", "\u2028"), "\ufeff" + good, good + "\x00"):
            self.check(text)

    def test_wrong_procedures(self):
        for lines in ("proc", "proc ", "proc p q", "proc  p", "proc main", "proc P", "proc abcdefghi", " proc p", "proc p "):
            self.check(f"var x\n{lines}\nend\nmain\nend")
        self.check("var x\nproc p\nmain\nend")
        self.check("var x\nproc p\n  end\nmain\nend")
        self.check("proc p\nend\nvar x\nmain\nend")

    def test_wrong_indentation(self):
        self.check("var x\nmain\nprint x\nend")
        for blanks in (0, 1, 3, 4):
            self.check("var x\nmain\n" + " " * blanks + "print x\nend")
            self.check("var x\nmain\n  while x\n" + " " * (blanks + 2) + "print x\n  end\nend")
            self.check("var x\nmain\n  while x\n    print x\n" + " " * blanks + "end\nend")
        self.check("var x\nmain\n\tprint x\nend")
        self.check("var x\nmain\n  print x\n  end")
        self.check("var x\n  main\nend")

    def test_wrong_blanks(self):
        for line in ("print x ", "print  x", "set x=1", "set x =1", "set x= 1", "set  x = 1", "set x  = 1", "set x =  1",
                     "set x = 1 ", "swap a  x", "swap  a x", "swap a x ", "call p ", "print x\t", "print\tx", ""):
            self.check_lines(line)
            self.check_lines("print x", line, "print x")

    def test_wrong_statements(self):
        for line in ("print", "print ", "set", "set x", "set x = ", "set x =", "set = 1", "set 1 = x", "set y = 1", "set x = y",
                     "set x = = 1", "set x = 1 = 1", "swap", "swap a", "swap a a", "swap a y", "swap y a", "swap a x a",
                     "swap a, x", "call", "call ", "call p", "call x", "call print", "stop", "else", "end", "main", "var y",
                     "given y", "proc p", "read", "x", "x = 1", "Print x", "go 1", "test x", "# x", "print x # x", "print x;"):
            self.check_lines(line)
            self.check_lines("print x", line)

    def test_wrong_blocks(self):
        for word in ("if", "while", "repeat"):
            for lines in ([word, "end"], [word + " ", "end"], [word + " x"], [word + " x", "end", "end"],
                          [word + " x", "end "], [word + " x", "End"], [word + " x y", "end"], [word + " x", "  end"]):
                self.check_lines(*lines)
        for word in ("while", "repeat"):
            self.check_lines(f"{word} x", "else", "  print x", "end")
            self.check_lines(f"{word} x", "  print x", "else", "  print x", "end")

    def test_wrong_else(self):
        self.check_lines("if x", "else", "end")
        self.check_lines("if x", "  print x", "else", "end")
        self.check_lines("if x", "  print x", "else", "  print x", "else", "  print x", "end")
        self.check_lines("if x", "  print x", "else ", "  print x", "end")
        self.check_lines("if x", "  print x", "  else", "  print x", "end")
        self.check_lines("if x", "  print x", "end", "else", "  print x", "end")
        self.check_lines("if x", "  print x", "else", "  print x")

    def test_wrong_numbers(self):
        self.check_sums("00", "01", "+1", "-0", "--1", "- 1", "1.0", "1e3", "0x1", "1_000", "\u0663", "\u00b2", "\uff11", "1l",
                        "x + 01", "x + -1", "x - -1", "x + +1", "x - 0", "x + 0", "-0 * x", "02 * x", "(x) / 02", "(x) / -2",
                        "(x) / +2", "(x) / 0", "(x) / 1", "(x) / 00", "(x) / x", "(0) / 2")

    def test_wrong_terms(self):
        self.check_sums("1 * x", "-1 * x", "0 * x", "+x", "- x", "--x", "x * 2", "2x", "2 *x", "2* x", "2*x", "2  * x",
                        "2 * 3", "2 * 3 * x", "x * a", "2 *", "* x", "2 * -x", "y", "read * x", "2 * y", "X", "", " ", "-", "+")

    def test_wrong_sums(self):
        self.check_sums("x + a", "x + x", "a + a + x", "a + x + a", "1 + x", "x + 1 + a", "x + 1 + 1", "1 + 1", "1 - 1",
                        "a+x", "a +x", "a+ x", "a  + x", "a +  x", "a - + x", "a + ", " + a", "a + - x", "a - x -", "a x",
                        "a, x", "a / 2", "1 / 2", "a + x / 2", " a", "a ", "a + ", "a - ", "-a + x + 0")

    def test_wrong_divisions(self):
        self.check_sums("(x)", "(x) /", "(x) / ", "(x)/2", "(x) /2", "(x)/ 2", "(x) / 2 ", " (x) / 2", "( x) / 2", "(x ) / 2",
                        "((x)) / 2", "((x) / 2) / 2", "(x) / 2 / 2", "(x) / 2 + 1", "1 + (x) / 2", "-(x) / 2", "(x / 2", "x) / 2",
                        "() / 2", "(2 * x) / 2", "(2 * x + 4) / 6", "(4) / 2", "(x + a) / 2", "(x) / (2)", "[x] / 2",
                        "((x) / 2", "(x)) / 2")

    def test_wrong_free_expressions(self):
        for text in ("read", "product(x, a)", "less(1, 1)"):
            for word in PAIRS:
                self.check_expressions(f"{word}({text}, 1)", f"{word}(1, {text})")
        self.check_expressions("read()", "read ", " read", "Read", "reads", "-read", "read + 1", "2 * read", "(read) / 2")
        for word in PAIRS:
            self.check_expressions(word, f"{word} (a, x)", f"{word}(a,x)", f"{word}(a,  x)", f"{word}( a, x)", f"{word}(a, x )",
                                   f"{word}(a , x)", f"{word}(a)", f"{word}()", f"{word}(a, x, x)", f"{word}(a, x))",
                                   f"{word}((a, x))", f"{word}(a, x", f"{word}a, x)", f"-{word}(a, x)", f"{word}(a, x) + 1",
                                   f"{word}(a, x) ", f"2 * {word}(a, x)", f"({word}(a, x)) / 2", f"{word.title()}(a, x)",
                                   f"{word}(, x)", f"{word}(a, )", f"{word}(a x)", f"{word}(a, x,)", f"{word}[a, x]")
        self.check_expressions("sum(a, x)", "plus(a, x)", "(a, x)", "product(a, x)product(a, x)")

    def test_numbers_of_many_digits(self):
        self.assertEqual(parse_program(text_of(f"print {LONG}")).main, (("print", total(LONG)),))
        for digits in (301, 4300, 4301, 20000):
            number = "9" * digits
            self.check_sums(number, f"-{number}", f"{number} * x", f"x + {number}", f"(x) / {number}", "0" * digits)
        self.check_lines(f"set {'x' * 5000} = 1")
        self.check(f"var {'x' * 5000}\nmain\nend")

    def test_nested_thousands_deep(self):
        for word in ("if", "while", "repeat"):
            for depth in (9, 10, 100, 5000):
                opened = [f"{'  ' * level}{word} x" for level in range(depth - 1)]
                closed = [f"{'  ' * level}end" for level in reversed(range(depth - 1))]
                self.check_lines(*opened, *closed)
                self.check_lines(*opened)
                self.check_lines(*[word + " x"] * depth, *["end"] * depth)
                self.check_lines(*opened, f"{'  ' * (depth - 1)}print x", *closed)
        self.check_lines("if x", *["  " * level + "else\n" + "  " * level + "  if x" for level in range(1, 3000)])
        for text in ("(" * 5000 + "x" + ")" * 5000, "product(" * 5000, "product(1, " * 5000 + "1" + ")" * 5000, "-" * 5000,
                     "(" * 5000 + "x" + ") / 2" * 5000, " + ".join(["x"] * 5000), "1 + " * 5000):
            self.check_sums(text)

    def test_many_lines(self):
        self.check_lines(*["print x"] * 20000)
        self.check("var x\n" + "proc p\nend\n" * 5000 + "main\nend")
        self.check("\n" * 20000)


class ChangedTextTest(RefusingCase):
    """A changed text is refused unless it is exactly the text of another program."""

    def test_lines_left_out_repeated_and_moved(self):
        lines = SAMPLE.split("\n")
        for at, line in enumerate(lines):
            rest = lines[:at] + lines[at + 1:]
            self.check_other("\n".join(rest))
            for to in range(len(lines)):
                self.check_other("\n".join(rest[:to] + [line] + rest[to:]))
                self.check_other("\n".join(lines[:to] + [line] + lines[to:]))

    def test_structural_lines_cannot_be_left_out_or_repeated(self):
        lines = SAMPLE.split("\n")
        for at, line in enumerate(lines):
            word = line.split()[0]
            if word not in ("set", "swap", "print", "call"):
                self.check("\n".join(lines[:at] + [line] + lines[at:]))
            if word in ("end", "main", "if", "while", "repeat"):
                self.check("\n".join(lines[:at] + lines[at + 1:]))

    def test_characters_changed_put_in_and_left_out(self):
        for at in range(len(SAMPLE) + 1):
            self.check_other(SAMPLE[:at] + SAMPLE[at + 1:])
            for letter in " \nx0-1(),/+*e\u0663":
                self.check_other(SAMPLE[:at] + letter + SAMPLE[at:])
                self.check_other(SAMPLE[:at] + letter + SAMPLE[at + 1:])

    def test_other_indentation_of_one_line(self):
        lines = SAMPLE.split("\n")
        for at, line in enumerate(lines):
            for changed in (" " + line, "  " + line, "\t" + line, line + " ", line + "\r", line.replace("  ", "\t", 1)):
                if changed != line:
                    self.check("\n".join(lines[:at] + [changed] + lines[at + 1:]))
            if line.startswith(" "):
                self.check("\n".join(lines[:at] + [line[1:]] + lines[at + 1:]))


if __name__ == "__main__":
    unittest.main()
