import random
import unittest

from frugaltape.errors import InvalidProgram
from frugaltape.programs import Program
from samples import A, ONE, PRINT, X, one_variable, random_parts

SET = ("set", "x", ONE)
READ = ("read",)


class Assembler:
    """Makes code in another way than the package: with labels that are replaced by addresses at the end."""

    def __init__(self):
        self.rows = []
        self.places = {}
        self.labels = 0

    def label(self):
        self.labels += 1
        return f"label {self.labels}"

    def put(self, label):
        self.places[label] = len(self.rows)

    def block(self, block):
        for statement in block:
            getattr(self, "make_" + statement[0], self.make_other)(statement)

    def make_other(self, statement):
        self.rows.append(statement)

    def make_if(self, statement):
        second, behind = self.label(), self.label()
        self.rows.append(("test", statement[1], second))
        self.block(statement[2])
        self.rows.append(("go", behind, 1))
        self.put(second)
        self.block(statement[3])
        self.rows.append(("go", behind, 0))
        self.put(behind)

    def make_while(self, statement):
        head, behind = self.label(), self.label()
        self.rows.append(("go", head, 0))
        self.put(head)
        self.rows.append(("test", statement[1], behind))
        self.block(statement[2])
        self.rows.append(("go", head, 1))
        self.put(behind)

    def make_repeat(self, statement):
        turn, behind = self.label(), self.label()
        self.rows.append(("begin", statement[1]))
        self.put(turn)
        self.rows.append(("turn", behind))
        self.block(statement[2])
        self.rows.append(("again", turn))
        self.put(behind)

    def code(self):
        # Labels have a blank, names have none.
        return tuple(
            tuple(self.places.get(part, part) if isinstance(part, str) else part for part in row) for row in self.rows
        )


def assembled(procedures, main):
    """The code of a program and the addresses of its procedures."""
    assembler = Assembler()
    assembler.block(main)
    assembler.rows.append(("stop",))
    entries = {}
    for name, block in procedures:
        entries[name] = len(assembler.rows)
        assembler.block(block)
        assembler.rows.append(("return",))
    return assembler.code(), entries


class CodeTest(unittest.TestCase):
    def check(self, block, *code):
        """The block has this code in `main`, and the same one, further behind, in a procedure."""
        self.assertEqual(Program(("a",), ("x",), (("p", ()),), block).code, (*code, ("stop",), ("return",)))
        program = Program(("a",), ("x",), (("q", ()), ("p", block)), (PRINT,))
        moved = tuple(self.moved(row, program.entry("p")) for row in code)
        self.assertEqual(program.code, (PRINT, ("stop",), ("return",), *moved, ("return",)))

    def moved(self, row, by):
        """The instruction with the addresses in it made greater."""
        places = {"test": 2, "go": 1, "turn": 1, "again": 1}
        return tuple(part + by if at == places.get(row[0]) else part for at, part in enumerate(row))

    def test_empty_program(self):
        self.assertEqual(Program(("a",), (), (), ()).code, (("stop",),))

    def test_statements_that_are_their_own_instructions(self):
        for statement in (SET, ("set", "x", READ), ("swap", "a", "x"), ("print", READ), ("call", "p")):
            self.check((statement,), statement)
        self.check((SET, PRINT, SET), SET, PRINT, SET)

    def test_if(self):
        self.check((("if", X, (), ()),), ("test", X, 2), ("go", 3, 1), ("go", 3, 0))
        self.check((("if", READ, (SET, PRINT), (PRINT,)),),
                   ("test", READ, 4), SET, PRINT, ("go", 6, 1), PRINT, ("go", 6, 0))
        self.check((SET, ("if", X, (SET,), ()), PRINT),
                   SET, ("test", X, 4), SET, ("go", 5, 1), ("go", 5, 0), PRINT)

    def test_while(self):
        self.check((("while", X, ()),), ("go", 1, 0), ("test", X, 3), ("go", 1, 1))
        self.check((SET, ("while", READ, (SET, PRINT)), PRINT),
                   SET, ("go", 2, 0), ("test", READ, 6), SET, PRINT, ("go", 2, 1), PRINT)

    def test_repeat(self):
        self.check((("repeat", X, ()),), ("begin", X), ("turn", 3), ("again", 1))
        self.check((SET, ("repeat", READ, (SET, PRINT)), PRINT),
                   SET, ("begin", READ), ("turn", 6), SET, PRINT, ("again", 2), PRINT)

    def test_nested(self):
        block = (("while", X, (("if", A, (("repeat", ONE, (SET,)),), (PRINT,)), ("call", "p"))), SET)
        self.check(block, ("go", 1, 0), ("test", X, 12), ("test", A, 8), ("begin", ONE), ("turn", 7), SET, ("again", 4),
                   ("go", 10, 1), PRINT, ("go", 10, 0), ("call", "p"), ("go", 1, 1), SET)

    def test_procedures_stand_in_order_behind_main(self):
        procedures = (("q", (("call", "p"),)), ("p", (("while", X, ()),)), ("x", ()))
        program = one_variable(SET, ("call", "q"), procedures=procedures)
        self.assertEqual(program.code, (
            SET, ("call", "q"), ("stop",), ("call", "p"), ("return",),
            ("go", 6, 0), ("test", X, 8), ("go", 6, 1), ("return",), ("return",),
        ))
        self.assertEqual([program.entry(name) for name in "qpx"], [3, 5, 9])

    def test_random_programs(self):
        rng = random.Random(9)
        for _ in range(300):
            given, variables, procedures, main = random_parts(rng)
            code, entries = assembled(procedures, main)
            calls = sum(row[0] == "call" for row in code)
            if len(code) > 120 or calls > 8:
                with self.assertRaises(InvalidProgram) as caught:
                    Program(given, variables, procedures, main)
                self.assertEqual(caught.exception.part, "size")
                continue
            program = Program(given, variables, procedures, main)
            self.assertEqual(program.code, code)
            self.assertEqual({name: program.entry(name) for name, _ in procedures}, entries)


if __name__ == "__main__":
    unittest.main()
