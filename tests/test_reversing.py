import random
import unittest

from frugaltape.errors import InvalidProgram, RunError, StepLimit
from frugaltape.machine import Machine
from frugaltape.programs import Program
from frugaltape.reversing import reversed_inputs, reversed_program
from frugaltape.running import execute
from frugaltape.texts import format_program, parse_program
from samples import lively_program, lively_start, text_of
from test_machine import facts, machine_of

COUNTDOWN = parse_program("given a\nvar x\nmain\n  while a\n    set a = a - 1\n    set x = read\n    print x\n  end\nend")


class ReversedProgramTest(unittest.TestCase):
    def check(self, lines, expected, head="given a\nvar x", given="given a x"):
        """The reversed main block of a program with these lines in its own."""
        program = reversed_program(parse_program(text_of(*lines, head=head)))
        self.assertIs(type(program), Program)
        self.assertEqual(format_program(program), text_of(*expected, head=given))

    def test_example_of_the_interface(self):
        program = parse_program("given a\nvar x\nmain\n  set x = 2 * a + 1\n  set a = read\nend")
        self.assertEqual(format_program(reversed_program(program)), "given a x\nmain\n  set a = (x - 1) / 2\n  set x = 0\nend")

    def test_variables(self):
        program = reversed_program(Program(("c", "a"), ("d", "b"), (), ()))
        self.assertEqual((program.given, program.variables, program.main), (("c", "a", "d", "b"), (), ()))
        program = reversed_program(Program((), ("x",), (), ()))
        self.assertEqual((program.given, program.variables), (("x",), ()))

    def test_set(self):
        self.check(["set x = a", "set a = 3 * a - 5", "set x = read", "set a = 0", "set x = x + 2"],
                   ["set x = x - 2", "set a = read", "set x = (a + 5) / 3", "set a = x", "set x = 0"])

    def test_swap_and_print(self):
        self.check(["swap a x", "print a", "print read", "swap x a"], ["swap x a", "swap a x"])

    def test_if_apart(self):
        self.check(["if a", "  set x = 5", "  swap a x", "else", "  set x = 3", "end"],
                   ["if read", "  swap a x", "  set x = 0", "else", "  set x = 0", "end"])
        self.check(["if read", "  set x = 5", "  swap a y", "  swap a y", "else", "  set x = 3", "end"],
                   ["if (x - 3) / 2", "  swap a y", "  swap a y", "  set x = 0", "else", "  set x = 0", "end"],
                   "given a\nvar x y", "given a x y")

    def test_if_record(self):
        self.check(["if less(a, 0)", "  set a = a + 1", "end"], ["if read", "  set a = a - 1", "end"])
        self.check(["if less(a, 0)", "else", "  set a = a + 1", "end"], ["if read", "else", "  set a = a - 1", "end"])
        self.check(["if 1", "end"], ["if read", "end"])

    def test_while(self):
        self.check(["while a", "  set a = a - 1", "  set x = x + 2", "end"], ["while read", "  set x = x - 2", "  set a = a + 1", "end"])
        self.check(["while read", "  set x = 1", "end"], ["while x", "  set x = read", "end"])

    def test_repeat(self):
        self.check(["repeat 2 * a - 1", "  set x = x + 1", "end"], ["repeat 2 * a - 1", "  set x = x - 1", "end"])
        self.check(["repeat a", "  set a = a + 1", "end"], ["repeat read", "  set a = a - 1", "end"])
        self.check(["repeat (a + 1) / 2", "  swap a x", "end"], ["repeat (a + x + 1) / 2", "  swap a x", "end"])
        self.check(["repeat 4", "  set a = 1", "end"], ["repeat 4", "  set a = read", "end"])

    def test_nested_blocks(self):
        lines = ["repeat a", "  if x", "    while read", "      set x = x + 1", "    end", "    swap x b", "  end", "  print b", "end"]
        expected = ["repeat a", "  if read", "    swap x b", "    while read", "      set x = x - 1", "    end", "  end", "end"]
        self.check(lines, expected, "given a b\nvar x", "given a b x")

    def test_procedures(self):
        text = "\n".join(["given a x", "proc q", "  set x = a + x", "  call p", "end", "proc p", "  print x", "end", "proc x", "end",
                          "main", "  call q", "  set a = 2 * a", "  call x", "end"])
        expected = "\n".join(["given a x", "proc q", "  call p", "  set x = -a + x", "end", "proc p", "end", "proc x", "end",
                              "main", "  call x", "  set a = (a) / 2", "  call q", "end"])
        self.assertEqual(format_program(reversed_program(parse_program(text))), expected)

    def test_statements_that_are_never_reached(self):
        head = "given a\nvar x\nproc p\n  set a = a + 1\n  call p\n  set x = 3\nend\nproc q\n  set a = 5\nend"
        given = "given a x\nproc p\n  call p\n  set a = a - 1\nend\nproc q\nend"
        self.check(["if a", "  call p", "  set x = 1", "else", "  set x = 2", "  swap a x", "end", "print x"],
                   ["swap a x", "set x = 0"], head, given)
        self.check(["if a", "  set x = 2", "  set a = 2 * a", "else", "  call p", "end"], ["set a = (a) / 2", "set x = 0"], head, given)
        self.check(["while a", "  call p", "  set x = 1", "end", "set x = 1"], ["set x = 0"], head, given)
        self.check(["repeat a", "  call p", "  set x = 1", "end", "set x = 1"],
                   ["set x = 0", "repeat a", "  call p", "end"], head, given)
        never = ["set x = 1", "swap a x", "call q", "print x", "if a", "end", "while a", "end", "repeat a", "end"]
        self.check(["set x = a", "call p", *never], ["call p", "set x = 0"], head, given)

    def test_programs_that_are_none(self):
        for wrong in (None, 1, "main\nend", Program, COUNTDOWN.code):
            with self.assertRaises(InvalidProgram) as caught:
                reversed_program(wrong)
            self.assertIsNone(caught.exception.part)
        self.assertEqual(reversed_program(program=COUNTDOWN), reversed_program(COUNTDOWN))


class BackToTheStartTest(unittest.TestCase):
    def check(self, machine):
        """From the end of a run, the reversed program leads to its start and reads the whole tape."""
        program = reversed_program(machine.program)
        start = machine.copy()
        start.go(0)
        back = Machine(program, machine.state, reversed_inputs(machine))
        back.finish(10**200)
        self.assertEqual(back.state, start.state)
        self.assertEqual(back.read_count, len(machine.tape))
        return back

    def check_twice(self, machine):
        """The same holds for the reversed program."""
        self.check(self.check(machine))

    def test_by_hand(self):
        machine = Machine(COUNTDOWN, {"a": 3}, [7, 8, 9])
        machine.finish()
        self.assertEqual(machine.tape, (0, 0, 1, 7, 1, 8, 1))
        self.assertEqual(reversed_inputs(machine), [1, 8, 1, 7, 1, 0, 0])
        state, outputs, _ = execute(reversed_program(COUNTDOWN), {"a": 0, "x": 9}, [1, 8, 1, 7, 1, 0, 0])
        self.assertEqual((state, outputs), ({"a": 3, "x": 0}, ()))
        self.check_twice(machine)

    def test_each_decision(self):
        for lines in (
            ["set x = read", "set a = read", "set x = a + x"],
            ["if a", "  set x = 1", "else", "  set x = 0", "end"],
            ["if a", "  print 5", "else", "  swap a x", "end"],
            ["while less(x, a)", "  set x = x + 1", "end"],
            ["while less(x, a)", "  set x = read", "end"],
            ["repeat a", "  set x = x + 1", "end"],
            ["repeat a", "  set a = 0", "end"],
            ["repeat read", "  repeat a", "    set x = read", "  end", "end"],
        ):
            for a in (-2, 0, 1, 3):
                machine = machine_of(*lines, values={"a": a}, inputs=[2, 1, 5, 3, 0, 9, 9, 9, 9, 9])
                machine.finish()
                self.check_twice(machine)

    def test_recursion(self):
        text = "\n".join(["given a", "var x", "proc p", "  set a = a - 1", "  if a", "    call p", "    set x = read", "  end",
                          "  set a = a + 1", "end", "main", "  call p", "end"])
        machine = Machine(parse_program(text), {"a": 6}, [3, 1, 4, 1, 5])
        machine.finish()
        self.check_twice(machine)

    def test_great_quiet_loops(self):
        machine = machine_of("repeat a", "  set x = x + 3", "end", "set a = 2 * a", values={"a": 10**50})
        machine.finish(10**60)
        self.check_twice(machine)

    def test_random_programs(self):
        rng = random.Random(26)
        made = 0
        while made < 250:
            program = lively_program(rng)
            machine = Machine(program, *lively_start(rng, program))
            try:
                machine.finish(400)
            except (RunError, StepLimit):
                continue
            made += 1
            if made % 5:
                self.check(machine)
            else:
                self.check_twice(machine)


class ReversedInputsTest(unittest.TestCase):
    def test_kind(self):
        machine = Machine(COUNTDOWN, {"a": 2}, [7, 8])
        self.assertEqual(reversed_inputs(machine), [])
        machine.finish()
        found = reversed_inputs(machine=machine)
        self.assertEqual(found, [1, 7, 1, 0, 0])
        self.assertIs(type(found), list)
        before = facts(machine)
        found.append(5)
        self.assertEqual(facts(machine), before)
        self.assertEqual(reversed_inputs(machine), [1, 7, 1, 0, 0])

    def test_a_machine_that_is_not_done(self):
        machine = Machine(COUNTDOWN, {"a": 2}, [7, 8])
        machine.forward(7)
        self.assertEqual(reversed_inputs(machine), list(machine.tape[::-1]))
        self.assertEqual(len(machine.tape), 3)

    def test_the_whole_tape_also_with_edits(self):
        machine = machine_of("set a = 0", "set a = 1", "set a = 2", values={"a": 9})
        machine.forward()
        machine.edit("a", 0)
        machine.finish()
        self.assertEqual(reversed_inputs(machine), [9])
        machine = machine_of("set a = read", "set a = read", values={"a": 9}, inputs=[5, 6])
        machine.forward()
        machine.edit("a", 44)
        machine.finish()
        self.assertEqual(reversed_inputs(machine), [44, 9])


if __name__ == "__main__":
    unittest.main()
