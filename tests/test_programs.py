import random
import unittest

from frugaltape.errors import InvalidProgram, UnknownName
from frugaltape.programs import Program
from samples import A, LONG, ONE, PAIRS, PRINT, X, ZERO, nested, one_variable, random_parts, total

WORDS = ("given", "var", "proc", "main", "end", "set", "swap", "print", "if", "else", "while", "repeat", "call",
         "read", "product", "quotient", "remainder", "less", "same")
WRONG_NAMES = (*WORDS, "", "ninelette", "X", "xY", "x1", "x_", " x", "x ", "\u00e9", "\u03b1", "x\n",
               b"x", 1, None, True, ("x",), ["x"])


class PartTest(unittest.TestCase):
    def check_part(self, part, given, variables, procedures, main):
        with self.assertRaises(InvalidProgram) as caught:
            Program(given, variables, procedures, main)
        self.assertEqual(caught.exception.part, part)

    def check_main(self, *statements):
        self.check_part("main", ("a",), ("x",), (), statements)
        self.check_part("procedures", ("a",), ("x",), (("p", statements),), ())

    def accept_main(self, *statements):
        self.assertEqual(Program(("a",), ("x",), (("p", ()),), statements).main, statements)


class ExpressionTest(PartTest):
    def accept(self, *expressions):
        for expression in expressions:
            self.accept_main(("print", expression))
            self.accept_main(("set", "a", expression))
            self.accept_main(("if", expression, (), ()))
            self.accept_main(("while", expression, ()))
            self.accept_main(("repeat", expression, ()))

    def refuse(self, *expressions):
        for expression in expressions:
            self.check_main(("print", expression))
            self.check_main(("set", "a", expression))
            self.check_main(("if", expression, (), ()))
            self.check_main(("while", expression, ()))
            self.check_main(("repeat", expression, ()))

    def refuse_sum(self, *sums):
        self.refuse(*sums)
        for wrong in sums:
            for word in PAIRS:
                self.refuse((word, wrong, ONE), (word, ONE, wrong))

    def test_good_expressions(self):
        self.accept(ZERO, ONE, total(-7), X, total(3, (-1, "a"), (2, "x")), total(1, by=2), total(-1, (4, "x"), by=6))
        self.accept(total(2, (4, "a"), (3, "x"), by=2), ("read",))
        for word in PAIRS:
            self.accept((word, X, A), (word, ONE, total(1, (1, "a"), by=2)))

    def test_wrong_shapes(self):
        self.refuse_sum(None, 1, "x", "read", (), ("sum",), ("sum", 0, ()), ("sum", 0, (), 1, 1), ["sum", 0, (), 1],
                        ("total", 0, (), 1), (b"sum", 0, (), 1), (None, 0, (), 1), (["sum"], 0, (), 1), {})
        self.refuse(["read"], ("read", ONE), (), ("reads",), (None,), (["read"],))
        self.refuse(("product", X), ("product", X, X, X), ["product", X, X], ("plus", X, X), ("sum", X, X), (None, X, X))

    def test_wrong_constants(self):
        for constant in (True, False, None, "1", 1.0, (1,), [1]):
            self.refuse_sum(("sum", constant, (), 1))

    def test_wrong_terms(self):
        for terms in (None, [], [(1, "x")], "", {}, ("x",), (1,), ([1, "x"],), ((1, "x", 1),), ((1,),), ((),),
                      (("x", 1),), ((1, "x"), None)):
            self.refuse_sum(("sum", 0, terms, 1))

    def test_wrong_factors(self):
        for factor in (0, True, None, "1", 1.0, [1]):
            self.refuse_sum(total(0, (factor, "x")), total(1, (2, "a"), (factor, "x")))

    def test_wrong_names_in_terms(self):
        self.refuse_sum(*[total(0, (1, name)) for name in ("b", "p", "y", *WRONG_NAMES)])

    def test_terms_are_ascending_and_each_name_stands_once(self):
        self.refuse_sum(total(0, (1, "x"), (1, "a")), total(0, (1, "x"), (2, "x")), total(0, (1, "a"), (1, "x"), (1, "a")))
        self.accept(total(0, (1, "a"), (1, "x")))

    def test_wrong_divisors(self):
        for divisor in (0, -1, True, None, "1", 1.0, [1]):
            self.refuse_sum(total(1, (3, "x"), by=divisor))

    def test_no_common_divisor(self):
        self.refuse_sum(total(0, by=2), total(2, by=2), total(0, (2, "x"), by=2), total(4, (-2, "a"), (6, "x"), by=2),
                        total(3, (9, "x"), by=6))
        self.accept(total(4, (2, "x")), total(0, (2, "x")), total(4, (-2, "a"), (5, "x"), by=2), total(1, (3, "x"), by=3))

    def test_digits(self):
        for number in (LONG, -LONG, 10**299):
            self.accept(total(number), total(1, (number, "x")), ("product", total(number), total(0, (number, "x"))))
        self.accept(total(1, by=LONG), ("less", ONE, total(1, (1, "x"), by=LONG)))
        for number in (LONG + 1, -LONG - 1, 10**301, 10**4500):
            self.refuse_sum(total(number), total(1, (number, "x")), total(1, (1, "a"), (number, "x"), by=3))
        for divisor in (LONG + 1, LONG + 2, 10**4500 + 1):
            self.refuse_sum(total(1, by=divisor), total(1, (1, "x"), by=divisor))

    def test_a_free_expression_is_not_inside_another(self):
        for word in PAIRS:
            for inner in (("read",), *[(other, X, X) for other in PAIRS]):
                self.accept(inner)
                self.refuse((word, inner, X), (word, X, inner))


class NamesTest(PartTest):
    def test_names(self):
        for name in ("a", "z", "abcdefgh", "sum", "test", "go", "turn", "begin", "again", "return", "stop", "ends"):
            self.assertEqual(Program((name,), (), ((name, ()),), ()).names, (name,))

    def test_wrong_names(self):
        for name in WRONG_NAMES:
            self.check_part("given", (name,), ("x",), (), ())
            self.check_part("given", ("a", name), ("x",), (), ())
            self.check_part("variables", ("a",), (name,), (), ())
            self.check_part("variables", ("a",), ("x", name), (), ())
            self.check_part("procedures", ("a",), ("x",), ((name, ()),), ())
            self.check_part("procedures", ("a",), ("x",), (("p", ()), (name, ())), ())

    def test_names_are_in_a_tuple(self):
        for names in (["a"], "a", None, 1, {"a": 1}, {"a"}):
            self.check_part("given", names, ("x",), (), ())
            self.check_part("variables", ("x",), names, (), ())

    def test_names_are_different(self):
        self.check_part("given", ("a", "a"), ("x",), (), ())
        self.check_part("variables", ("a",), ("x", "x"), (), ())
        self.check_part("variables", ("a",), ("a",), (), ())
        self.check_part("variables", ("a", "b"), ("x", "b"), (), ())

    def test_one_to_four_names(self):
        letters = tuple("abcdefgh")
        for given in range(6):
            for variables in range(6):
                parts = letters[:given], letters[given:given + variables] if given + variables <= 8 else ()
                count = len(parts[0]) + len(parts[1])
                if 1 <= count <= 4:
                    self.assertEqual(Program(*parts, (), ()).names, letters[:count])
                else:
                    self.check_part("variables", *parts, (), ())


class StatementTest(PartTest):
    def test_good_statements(self):
        self.accept_main(("set", "a", X), ("swap", "a", "x"), ("print", A), ("call", "p"), ("if", A, (PRINT,), ()),
                         ("if", A, (), (PRINT,)), ("while", A, (PRINT, PRINT)), ("repeat", ("read",), ()))

    def test_wrong_blocks(self):
        for block in (None, [], [PRINT], "", 1, {}, PRINT, (PRINT, None), ((),), (None,), ("print",), (1,), ([PRINT],)):
            self.check_part("main", (), ("x",), (), block)
            self.check_part("procedures", (), ("x",), (("p", block),), ())
            self.check_main(("if", X, block, ()))
            self.check_main(("if", X, (), block))
            self.check_main(("while", X, block))
            self.check_main(("repeat", X, block))

    def test_wrong_statements(self):
        good = (("set", "x", X), ("swap", "a", "x"), PRINT, ("if", X, (), ()), ("while", X, ()), ("repeat", X, ()))
        for statement in good:
            self.accept_main(statement)
            self.check_main(list(statement))
            self.check_main(statement[:-1])
            self.check_main(statement[:1])
            for more in ((), None, X):
                self.check_main((*statement, more))
            for word in ("stop", "go", "test", "begin", "Set", None, b"set", 1, [statement[0]], statement[0] + " "):
                self.check_main((word, *statement[1:]))
        self.check_main(("read",))
        self.check_main(X)

    def test_wrong_names_in_statements(self):
        for name in ("b", "p", *WRONG_NAMES):
            self.check_main(("set", name, X))
            self.check_main(("swap", name, "x"))
            self.check_main(("swap", "x", name))
        self.check_main(("swap", "x", "x"))

    def test_calls(self):
        self.check_main(("call", "q"))
        self.check_main(("call", "x"))
        for name in ("a", "x", "q", None, 1, [], ["p"], ("p",), X):
            self.check_part("main", ("a",), ("x",), (("p", ()),), (("call", name),))
            self.check_part("procedures", ("a",), ("x",), (("p", (("call", name),)),), ())
        self.check_main(("call", "p", "p"))
        self.check_main(("call",))

    def test_procedures_call_each_other_and_themselves(self):
        procedures = (("p", (("call", "q"),)), ("q", (("call", "p"), ("call", "q"))), ("x", (("call", "x"),)))
        program = Program((), ("x",), procedures, (("call", "x"), ("call", "p")))
        self.assertEqual(program.procedures, procedures)

    def test_wrong_procedures(self):
        for procedures in (None, [], [("p", ())], "p", {}, {"p": ()}, ("p",), (("p",),), (["p", ()],), (("p", (), ()),),
                           (None,), ((),), (("p", ()), ("p", ())), (("p", ()), ("q", ()), ("p", (PRINT,)))):
            self.check_part("procedures", (), ("x",), procedures, ())

    def test_six_procedures(self):
        six = tuple((name, ()) for name in "pqrstu")
        self.assertEqual(Program((), ("x",), six, ()).procedures, six)
        self.check_part("procedures", (), ("x",), (*six, ("v", ())), ())

    def test_eight_blocks_deep(self):
        for word in ("if", "while", "repeat"):
            for inner in ((), (PRINT,)):
                self.accept_main(*nested(8, inner, word))
                program = one_variable(procedures=(("p", nested(8, inner, word)),))
                self.assertEqual(program.procedures[0][1], nested(8, inner, word))
                self.check_main(*nested(9, inner, word))
        self.accept_main(("if", X, (), nested(7)))
        self.check_main(("if", X, (), nested(8)))
        self.check_main(*nested(2000))


class SizeTest(PartTest):
    def test_120_instructions(self):
        self.assertEqual(len(one_variable(*[PRINT] * 119).code), 120)
        self.check_part("size", (), ("x",), (), (PRINT,) * 120)
        self.assertEqual(len(Program((), ("x",), (("p", (PRINT,) * 58),), (PRINT,) * 60).code), 120)
        self.check_part("size", (), ("x",), (("p", (PRINT,) * 59),), (PRINT,) * 60)
        for word, more in (("if", ((), ())), ("while", ((),)), ("repeat", ((),))):
            self.assertEqual(len(one_variable(*[PRINT] * 116, (word, X, *more)).code), 120)
            self.check_part("size", (), ("x",), (), ((PRINT,) * 117 + ((word, X, *more),)))
        self.check_part("size", (), ("x",), (), (PRINT,) * 5000)

    def test_eight_calls(self):
        call = ("call", "p")
        for count in (7, 8):
            self.assertEqual(len(one_variable(*[call] * count, procedures=(("p", ()),)).main), count)
        self.check_part("size", (), ("x",), (("p", ()),), (call,) * 9)
        inside = ("p", (call, ("while", X, (call, call))))
        self.assertEqual(one_variable(*[call] * 5, procedures=(inside,)).procedures, (inside,))
        self.check_part("size", (), ("x",), (inside,), (call,) * 6)

    def test_the_first_wrong_part_is_reported(self):
        wrong = {"given": ["a"], "variables": ("main",), "procedures": (("p", ()), ("p", ())), "main": (("set", "x", 1),)}
        good = {"given": ("a",), "variables": ("x",), "procedures": (("p", ()),), "main": (PRINT,) * 200}
        parts = list(wrong)
        for chosen in range(1, 16):
            picked = [part for at, part in enumerate(parts) if chosen >> at & 1]
            values = [wrong[part] if part in picked else good[part] for part in parts]
            self.check_part(picked[0], *values)
        self.check_part("size", *good.values())


class ProgramTest(unittest.TestCase):
    def test_examples_of_the_interface(self):
        program = Program(("a",), ("x",), (), (("set", "x", ("sum", 1, ((2, "a"),), 1)),))
        self.assertEqual(program.code, (("set", "x", ("sum", 1, ((2, "a"),), 1)), ("stop",)))
        with self.assertRaises(InvalidProgram) as caught:
            Program((), (), (), ())
        self.assertEqual(caught.exception.part, "variables")

    def test_properties(self):
        procedures = (("p", (PRINT,)),)
        program = Program(main=(PRINT, PRINT), given=("b", "a"), procedures=procedures, variables=("y", "x"))
        self.assertEqual(program.given, ("b", "a"))
        self.assertEqual(program.variables, ("y", "x"))
        self.assertEqual(program.names, ("b", "a", "y", "x"))
        self.assertEqual(program.procedures, procedures)
        self.assertEqual(program.main, (PRINT, PRINT))
        for name in ("given", "variables", "names", "procedures", "main", "code"):
            self.assertIsInstance(getattr(program, name), tuple)
            with self.assertRaises(AttributeError):
                setattr(program, name, ())

    def test_equality(self):
        parts = [("a",), ("x",), (("p", (PRINT,)),), (("call", "p"),)]
        program = Program(*parts)
        self.assertTrue(program == Program(*parts))
        self.assertFalse(program != Program(*parts))
        others = [("b",), ("y",), (("p", ()),), ()]
        for at in range(4):
            self.assertFalse(program == Program(*parts[:at], others[at], *parts[at + 1:]))
        self.assertFalse(Program(("a",), (), (), ()) == Program((), ("a",), (), ()))
        self.assertFalse(Program(("a", "x"), (), (), ()) == Program(("a",), ("x",), (), ()))
        for other in (tuple(parts), parts, program.code, program.main, None, 1, "program"):
            self.assertFalse(program == other)
            self.assertTrue(program != other)

    def test_random_programs(self):
        rng = random.Random(8)
        for _ in range(200):
            parts = random_parts(rng)
            try:
                program = Program(*parts)
            except InvalidProgram as error:
                self.assertEqual(error.part, "size")
                continue
            self.assertEqual((program.given, program.variables, program.procedures, program.main), parts)

    def test_entries(self):
        procedures = (("p", (PRINT,) * 3), ("x", ()), ("q", (("call", "p"),)))
        program = one_variable(PRINT, procedures=procedures)
        self.assertEqual([program.entry(name) for name in ("p", "x", "q")], [2, 6, 7])
        self.assertEqual(program.entry(name="q"), 7)

    def test_unknown_entries(self):
        program = Program((), ("x",), (("p", ()),), ())
        for name in ("x", "q", "main", "", "P", None, 0, True, b"p", ("p",), ["p"], {}, {"p"}, [], program):
            with self.assertRaises(UnknownName) as caught:
                program.entry(name)
            self.assertIs(caught.exception.name, name)
            self.assertIsInstance(caught.exception, KeyError)

    def test_methods_are_in_the_body_of_the_class(self):
        for name in ("__init__", "given", "variables", "procedures", "main", "names", "code", "entry", "__eq__"):
            self.assertIn(name, vars(Program))


if __name__ == "__main__":
    unittest.main()
