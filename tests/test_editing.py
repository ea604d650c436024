import random
import time
import unittest

from frugaltape.editing import compared, what_if
from frugaltape.errors import (
    Busy, DifferentPrograms, InvalidCount, InvalidValue, NoInput, RunError, StepLimit, Unfitting, UnknownName,
)
from frugaltape.machine import Machine
from frugaltape.texts import parse_program
from samples import lively_program, lively_start, text_of
from test_machine import COUNTDOWN, EXAMPLE, facts, machine_of

BIG = 10**35


class ComparedTest(unittest.TestCase):
    def test_names_in_order(self):
        program = parse_program("given c a\nvar x b\nmain\n  set x = a + c\n  set b = x\n  set a = 0\n  set c = 9\nend")
        one, other = [Machine(program, {"c": value, "a": 4}) for value in (1, 2)]
        self.assertEqual(compared(one, other), ("c",))
        other.forward()
        self.assertEqual(compared(one=one, other=other), ("c", "x"))
        other.forward()
        self.assertEqual(compared(other, one), ("c", "x", "b"))
        other.forward(2)
        self.assertEqual(compared(one, other), ("c", "a", "x", "b"))
        one.finish()
        self.assertEqual(compared(one, other), ("x", "b"))
        self.assertEqual(compared(one, one), ())
        self.assertIs(type(compared(one, one)), tuple)

    def test_only_values_count(self):
        lines = ("print a", "print read", "set x = read")
        one = machine_of(*lines, values={"a": 5}, inputs=[1, 4])
        other = machine_of(*lines, values={"a": 5}, inputs=[2, 4])
        other.forward(2)
        self.assertEqual(compared(one, other), ())
        other.forward()
        self.assertEqual(compared(one, other), ("x",))
        # A program that is equal is the same one.
        self.assertIsNot(one.program, other.program)

    def test_programs_that_differ(self):
        machine = Machine(EXAMPLE, {"a": 1})
        for text in (text_of("set x = 2 * a + 1", head="given a\nvar x"), "given a\nvar y\nmain\nend",
                     "given x a\nmain\n  set x = 2 * a + 1\n  set a = read\nend"):
            program = parse_program(text)
            other = Machine(program, {name: 1 for name in program.given})
            for pair in ((machine, other), (other, machine)):
                with self.assertRaises(DifferentPrograms):
                    compared(*pair)

    def test_long_numbers(self):
        one, other = [machine_of("print 1", values={"a": 10**5000 + more}) for more in (0, 1)]
        self.assertEqual(compared(one, other), ("a",))


class WhatIfTest(unittest.TestCase):
    def setUp(self):
        self.machine = Machine(COUNTDOWN, {"a": 3}, [4, 5, 6, 7, 8, 9])
        self.machine.finish()
        self.before = facts(self.machine)

    def tearDown(self):
        self.assertEqual(facts(self.machine), self.before)

    def by_hand(self, step, name, value):
        other = Machine(COUNTDOWN, {"a": 3}, [4, 5, 6, 7, 8, 9])
        other.go(step)
        other.edit(name, value)
        other.finish()
        return other

    def test_every_step(self):
        for step in range(self.machine.now + 1):
            for name, value in (("a", 1), ("a", 4), ("x", -2), ("x", 0)):
                try:
                    expected = self.by_hand(step, name, value)
                except (Unfitting, RunError) as error:
                    with self.assertRaises(type(error)):
                        what_if(self.machine, step, name, value)
                else:
                    found = what_if(self.machine, step, name, value)
                    self.assertEqual(facts(found), facts(expected))
                    self.assertEqual(found, expected)

    def test_results(self):
        found = what_if(machine=self.machine, step=1, name="a", value=5)
        self.assertEqual((found.outputs, found.edits, found.is_done), ((4, 5, 6, 7, 8), ((1, "a", 3, 5),), True))
        found = what_if(self.machine, self.machine.now, "x", 77, 0)
        self.assertEqual((found["x"], found.now, found.outputs), (77, self.machine.now + 1, (4, 5, 6)))
        # An edit inside the loop.
        found = what_if(self.machine, 8, "a", 0)
        self.assertEqual((found.outputs, found.edits), ((4, 5), ((8, "a", 1, 0),)))

    def test_a_machine_that_is_not_done(self):
        machine = Machine(COUNTDOWN, {"a": 3}, [4, 5, 6, 7])
        machine.forward(9)
        found = what_if(machine, 9, "x", 0)
        self.assertEqual((found.outputs, machine.now), ((4, 0, 6), 9))
        for step in (10, 11, 18):
            with self.assertRaises(InvalidCount):
                what_if(machine, step, "x", 0)

    def test_a_machine_with_edits(self):
        machine = Machine(COUNTDOWN, {"a": 3}, [4, 5, 6, 7, 8, 9])
        machine.forward(2)
        machine.edit("a", 2)
        machine.finish()
        found = what_if(machine, 8, "x", 44)
        self.assertEqual(found.edits[:1], machine.edits)
        self.assertEqual(found.outputs, (4, 5))
        found = what_if(machine, 2, "a", 1)
        self.assertEqual((found.edits, found.outputs), (((2, "a", 3, 1),), (4,)))

    def test_in_a_call_or_a_repeat(self):
        text = "given a\nvar x\nproc p\n  set x = x + 1\nend\nmain\n  call p\n  repeat 2\n    set x = 5\n  end\nend"
        machine = Machine(parse_program(text), {"a": 3})
        machine.finish()
        for step, depth in ((1, 1), (2, 1), (4, 1), (6, 1)):
            with self.assertRaises(Busy) as caught:
                what_if(machine, step, "x", 5)
            self.assertEqual(caught.exception.depth, depth)
        self.assertEqual(what_if(machine, 3, "a", 5)["a"], 5)

    def test_values_that_do_not_fit(self):
        machine = machine_of("set x = 2 * a", "print x", values={"a": 5})
        machine.finish()
        with self.assertRaises(Unfitting) as caught:
            what_if(machine, 1, "x", 11)
        self.assertIn(caught.exception.equation, ((2, -1, 0), (-2, 1, 0)))
        self.assertEqual(what_if(machine, 1, "x", 10).outputs, (10,))
        self.assertEqual(what_if(machine, 0, "a", 6).outputs, (12,))

    def test_runs_that_are_stopped(self):
        with self.assertRaises(NoInput) as caught:
            what_if(self.machine, 0, "a", 7)
        self.assertEqual(caught.exception.address, 3)

    def test_limits(self):
        for limit in range(20):
            call = lambda: what_if(self.machine, 6, "a", 3, limit=limit)
            if limit < 16:
                with self.assertRaises(StepLimit) as caught:
                    call()
                self.assertEqual(caught.exception.limit, limit)
            else:
                self.assertEqual(call().now, 23)
        endless = machine_of("while a", "  print x", "end", values={"a": 0})
        endless.finish()
        with self.assertRaises(StepLimit) as caught:
            what_if(endless, 0, "a", 1)
        self.assertEqual(caught.exception.limit, 10000)

    def test_the_order_of_errors(self):
        machine = machine_of("repeat 1", "  set x = 2", "end", "set x = 2 * a", "print x", values={"a": 5})
        machine.finish()
        for wrong in (-1, machine.now + 1, BIG, None, True, False, "1", 1.0, [1]):
            with self.assertRaises(InvalidCount) as caught:
                what_if(machine, wrong, "y", None, None)
            self.assertIs(caught.exception.value, wrong)
        for wrong in ("y", None, 0, ["x"]):
            with self.assertRaises(UnknownName) as caught:
                what_if(machine, 2, wrong, None, None)
            self.assertIs(caught.exception.name, wrong)
        for wrong in (None, True, "1", 1.0):
            with self.assertRaises(InvalidValue) as caught:
                what_if(machine, 2, "x", wrong, None)
            self.assertIs(caught.exception.value, wrong)
        with self.assertRaises(Busy):
            what_if(machine, 2, "x", 1, None)
        with self.assertRaises(Unfitting):
            what_if(machine, machine.now - 1, "x", 11, None)
        for wrong in (-1, None, True, "1", 1.0):
            with self.assertRaises(InvalidCount) as caught:
                what_if(machine, 0, "a", 4, wrong)
            self.assertIs(caught.exception.value, wrong)
        self.assertEqual((machine.now, machine.edits), (7, ()))

    def test_great_quiet_loops(self):
        start = time.process_time()
        machine = machine_of("repeat a", "  set x = x + 1", "end", "print x", values={"a": BIG})
        machine.finish(BIG * 9)
        found = what_if(machine, 0, "a", 3 * BIG, BIG * 20)
        self.assertEqual((found.outputs, found.now), ((3 * BIG,), 4 + 9 * BIG))
        self.assertLess(time.process_time() - start, 5)

    def test_random_runs(self):
        rng = random.Random(32)
        done = 0
        for _ in range(150):
            program = lively_program(rng)
            values, inputs = lively_start(rng, program)
            machine = Machine(program, values, inputs)
            try:
                machine.finish(300)
            except (RunError, StepLimit):
                continue
            before = facts(machine)
            step, name, value = rng.randrange(machine.now + 1), rng.choice(program.names), rng.randrange(-3, 4)
            other = Machine(program, values, inputs)
            other.go(step)
            try:
                other.edit(name, value)
                other.finish(300)
            except (Busy, Unfitting, RunError, StepLimit) as error:
                with self.assertRaises(type(error)):
                    what_if(machine, step, name, value, 300)
            else:
                self.assertEqual(facts(what_if(machine, step, name, value, 300)), facts(other))
                done += 1
            self.assertEqual(facts(machine), before)
        self.assertGreater(done, 20)


if __name__ == "__main__":
    unittest.main()
