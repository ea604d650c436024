import random
import unittest

from frugaltape.analysis import Analysis
from frugaltape.errors import AtEnd, AtStart, Busy, InvalidValue, RunError, Unfitting, UnknownName
from frugaltape.machine import Machine
from frugaltape.texts import parse_program
from samples import lively_program, lively_start
from test_machine import facts, machine_of

LINES = ("set x = 2 * a", "print x", "set x = a + x", "set a = read")


class EditTest(unittest.TestCase):
    def test_an_edit_is_a_step(self):
        machine = machine_of(*LINES, values={"a": 5}, inputs=[1])
        before = facts(machine)
        self.assertIsNone(machine.edit("a", 7))
        self.assertEqual(facts(machine)[1:], (0, 1, {"a": 7, "x": 0}, (), (), (1,), 0, (), False, 0, ((0, "a", 5, 7),)))
        machine.back()
        self.assertEqual(facts(machine), before)

    def test_the_run_goes_on_with_the_new_value(self):
        machine = machine_of(*LINES, values={"a": 5}, inputs=[1])
        machine.edit(name="a", value=7)
        machine.finish()
        self.assertEqual((machine.outputs, machine["x"], machine.now, machine.full_length), ((14,), 21, 5, 3))
        machine.back(4)
        self.assertEqual((machine.now, machine.here, machine["a"], machine["x"]), (1, 0, 7, 0))
        machine.back()
        # As if it had never been made.
        machine.forward()
        self.assertEqual((machine.now, machine.here, machine["x"], machine.edits), (1, 1, 10, ()))

    def test_the_edits_that_were_not_gone_back_over(self):
        machine = machine_of("print x", "print x", values={"a": 5})
        machine.edit("a", 6)
        machine.forward()
        machine.edit("a", 5)
        machine.edit("a", 5)
        machine.forward()
        machine.edit("a", -(10**5000))
        edits = ((0, "a", 5, 6), (2, "a", 6, 5), (3, "a", 5, 5), (5, "a", 5, -(10**5000)))
        self.assertEqual(machine.edits, edits)
        self.assertIs(type(machine.edits), tuple)
        for now, left in ((6, 4), (5, 3), (4, 3), (3, 2), (2, 1), (1, 1), (0, 0)):
            machine.go(now)
            self.assertEqual((machine.now, machine.edits), (now, edits[:left]))
        with self.assertRaises(AtStart):
            machine.back()

    def test_at_the_end(self):
        machine = machine_of("print x", values={"a": 5})
        machine.finish()
        machine.edit("a", 9)
        self.assertEqual((machine.is_done, machine.now, machine["a"]), (True, 2, 9))
        machine.finish(0)
        with self.assertRaises(AtEnd) as caught:
            machine.forward()
        self.assertEqual(caught.exception.step, 2)
        with self.assertRaises(AtEnd) as caught:
            machine.go(3)
        self.assertEqual(caught.exception.step, 2)
        machine.back(2)
        self.assertEqual((machine["a"], machine.now), (5, 0))

    def test_going_forward_over_an_edit_is_not_possible(self):
        machine = machine_of("print a", "print a", values={"a": 5})
        machine.edit("a", 6)
        machine.forward()
        machine.go(0)
        machine.go(1)
        self.assertEqual((machine.outputs, machine["a"], machine.edits, machine.here), ((5,), 5, (), 1))

    def test_moves_that_fail_keep_earlier_edits(self):
        machine = machine_of("print a", "print read", values={"a": 5})
        machine.edit("a", 6)
        machine.forward()
        machine.edit("a", 7)
        before = facts(machine)
        for move in (machine.forward, machine.finish):
            with self.assertRaises(RunError):
                move()
            self.assertEqual(facts(machine), before)

    def test_states_that_do_not_fit(self):
        machine = machine_of(*LINES, values={"a": 5}, inputs=[1])
        for name, value in (("x", 1), ("x", -1), ("x", 10**400)):
            with self.assertRaises(Unfitting) as caught:
                machine.edit(name, value)
            self.assertEqual(caught.exception.equation, (0, 1, 0))
        machine.forward()
        before = facts(machine)
        for name, value in (("x", 11), ("a", 4), ("a", 10**400)):
            with self.assertRaises(Unfitting) as caught:
                machine.edit(name, value)
            self.assertEqual(caught.exception.equation, (2, -1, 0))
            self.assertEqual(facts(machine), before)
        machine.edit("a", 5)
        machine.edit("x", 10)
        self.assertEqual(machine.edits, ((1, "a", 5, 5), (2, "x", 10, 10)))
        machine.go(1)
        machine.finish()
        # At the end a is free, but x is not used for it.
        machine.edit("a", 77)
        machine.edit("x", 77)
        self.assertEqual(machine.state, {"a": 77, "x": 77})

    def test_the_equation_that_does_not_hold(self):
        machine = machine_of("set x = a", "set y = a + 1", "print a", values={"a": 5}, head="given a\nvar x y")
        machine.forward(2)
        equations = Analysis(machine.program).equations(2)
        for name in ("a", "x", "y"):
            with self.assertRaises(Unfitting) as caught:
                machine.edit(name, 100)
            self.assertIn(caught.exception.equation, equations)
            state = machine.state | {name: 100}
            values = [state["a"], state["x"], state["y"], 1]
            self.assertNotEqual(sum(one * other for one, other in zip(caught.exception.equation, values)), 0)

    def test_inside_calls_and_loops(self):
        text = "given a\nvar x\nproc p\n  repeat 1\n    print a\n  end\nend\nmain\n  call p\n  print a\nend"
        machine = Machine(parse_program(text), {"a": 1})
        depths = []
        while not machine.is_done:
            depth = len(machine.stack)
            depths.append(depth)
            before = facts(machine)
            if depth == 0:
                machine.edit("a", machine["a"] + 1)
                machine.back()
            else:
                with self.assertRaises(Busy) as caught:
                    machine.edit("a", 5)
                self.assertEqual(caught.exception.depth, depth)
            self.assertEqual(facts(machine), before)
            machine.forward()
        self.assertEqual(depths, [0, 1, 2, 2, 2, 2, 1, 0])

    def test_order_of_errors(self):
        machine = machine_of("repeat 1", "end", values={"a": 5})
        machine.forward()
        before = facts(machine)
        for wrong in ("y", None, 5, True, ["a"], b"a", ("a",)):
            with self.assertRaises(UnknownName) as caught:
                machine.edit(wrong, None)
            self.assertIs(caught.exception.name, wrong)
        for wrong in (None, True, False, 1.0, "1", [1], {}):
            with self.assertRaises(InvalidValue) as caught:
                machine.edit("x", wrong)
            self.assertIs(caught.exception.value, wrong)
        with self.assertRaises(Busy) as caught:
            machine.edit("x", 1)
        self.assertEqual(caught.exception.depth, 1)
        self.assertEqual(facts(machine), before)

    def test_copies_and_equality(self):
        machine = machine_of("print x", values={"a": 5})
        other = machine.copy()
        machine.edit("a", 5)
        self.assertNotEqual(machine, other)
        other.forward()
        self.assertEqual((machine.state, machine.now), (other.state, other.now))
        self.assertNotEqual(machine, other)
        copy = machine.copy()
        self.assertEqual(copy, machine)
        copy.back()
        self.assertEqual(copy.edits, ())
        self.assertEqual(machine.edits, ((0, "a", 5, 5),))
        copy.edit("a", 6)
        self.assertNotEqual(copy, machine)
        copy.back()
        copy.edit("a", 5)
        self.assertEqual(copy, machine)

    def test_edits_that_change_the_past_only_in_edits(self):
        # The same configuration and step number, with an edit at another step.
        one = machine_of("print x", "print x", values={"a": 5})
        other = one.copy()
        one.edit("a", 5)
        one.forward()
        other.forward()
        other.edit("a", 5)
        self.assertEqual(facts(one)[:11], facts(other)[:11])
        self.assertNotEqual(one, other)

    def test_over_a_great_quiet_loop(self):
        machine = machine_of("repeat a", "  set x = x + 1", "end", "print x", values={"a": 10**30})
        machine.edit("a", 10**31)
        machine.finish(10**40)
        self.assertEqual((machine.outputs, machine.now), ((10**31,), 1 + 2 + 3 * 10**31 + 1))
        machine.edit("x", 10**31 + 1)
        machine.edit("a", 4)
        machine.back(3)
        self.assertEqual((machine["x"], machine["a"], machine.here), (10**31, 10**31, 4))
        machine.go(0)
        machine.finish(10**40)
        self.assertEqual(machine.outputs, (10**30,))

    def test_random_edits(self):
        """After any edits, going back restores each earlier configuration."""
        rng = random.Random(31)
        edited = refused = 0
        for _ in range(200):
            program = lively_program(rng)
            analysis = Analysis(program)
            machine = Machine(program, *lively_start(rng, program))
            found = [facts(machine)]
            for _ in range(60):
                if rng.randrange(3) == 0 and not machine.stack:
                    name = rng.choice(program.names)
                    value = machine[name] + rng.randrange(-2, 3)
                    if analysis.fits(machine.here, machine.state | {name: value}):
                        machine.edit(name, value)
                        edited += 1
                    else:
                        with self.assertRaises(Unfitting):
                            machine.edit(name, value)
                        refused += 1
                        continue
                else:
                    try:
                        machine.forward()
                    except (RunError, AtEnd):
                        continue
                found.append(facts(machine))
            copy = machine.copy()
            for told in found[::-1]:
                self.assertEqual(facts(machine), told)
                if machine.now > 0:
                    machine.back()
            for _ in range(5):
                other = copy.copy()
                other.go(rng.randrange(len(found)))
                self.assertEqual(facts(other), found[other.now])
        self.assertGreater(min(edited, refused), 300)


if __name__ == "__main__":
    unittest.main()
