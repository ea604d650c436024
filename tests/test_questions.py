import random
import time
import unittest

from frugaltape.errors import InvalidCount, InvalidExpression, RunError, UnknownName, Unfitting
from frugaltape.machine import Machine
from frugaltape.questions import last_true, last_write, outputs_at, writes
from frugaltape.texts import parse_program
from oracles import Failure, Walk
from samples import A, ONE, X, lively_expression, lively_program, lively_start, total
from test_machine import facts, machine_of

BIG = 10**35


def walked(*lines, values=None, inputs=(), head="given a\nvar x"):
    """A machine at the end of its run."""
    machine = machine_of(*lines, values=values, inputs=inputs, head=head)
    machine.finish(10**200)
    return machine


class LastWriteTest(unittest.TestCase):
    def test_example_of_the_interface(self):
        machine = walked("set x = 2 * a + 1", "set a = read", values={"a": 5}, inputs=[7])
        self.assertEqual(last_write(machine, "x"), (0, 0))
        self.assertEqual(last_write(machine=machine, name="a"), (1, 1))

    def test_sets_and_swaps(self):
        machine = machine_of("set x = x", "print x", "swap a x", "print a", "set a = read", values={"a": 5}, inputs=[7])
        found = []
        while True:
            found.append((last_write(machine, "a"), last_write(machine, "x")))
            if machine.is_done:
                break
            machine.forward()
        self.assertEqual(found, [(None, None), (None, (0, 0)), (None, (0, 0)), ((2, 2), (2, 2)), ((2, 2), (2, 2)), ((4, 4), (2, 2))])

    def test_loops(self):
        machine = walked("while a", "  set a = a - 1", "  print x", "end", values={"a": 3})
        self.assertEqual(last_write(machine, "a"), (10, 2))
        self.assertIsNone(last_write(machine, "x"))

    def test_an_edit_is_no_write(self):
        machine = machine_of("print x", "set a = 7", "print x", values={"a": 5})
        machine.edit("a", 6)
        self.assertIsNone(last_write(machine, "a"))
        machine.forward()
        # Here stands a set of a, but it was not performed.
        machine.edit("a", 8)
        self.assertIsNone(last_write(machine, "a"))
        machine.forward()
        self.assertEqual(last_write(machine, "a"), (3, 1))
        machine.edit("a", 7)
        self.assertEqual(last_write(machine, "a"), (3, 1))

    def test_great_quiet_loops(self):
        machine = walked("set b = 3", "repeat a", "  set x = x + 1", "  swap x c", "  swap c x", "end", "print x",
                         values={"a": BIG}, head="given a\nvar b c x")
        start = time.process_time()
        self.assertEqual(machine.now, 1 + 1 + 5 * BIG + 1 + 1)
        self.assertEqual(last_write(machine, "b"), (0, 0))
        self.assertIsNone(last_write(machine, "a"))
        last = 2 + 5 * (BIG - 1)
        self.assertEqual(last_write(machine, "x"), (last + 3, 5))
        self.assertEqual(last_write(machine, "c"), (last + 3, 5))
        machine.go(last + 2)
        self.assertEqual(last_write(machine, "x"), (last + 1, 3))
        self.assertEqual(last_write(machine, "c"), (last - 2, 5))
        for step, expected in ((2, None), (3, None), (4, (3, 3)), (5, (4, 4)), (6, (5, 5)), (8, (5, 5)), (9, (8, 3))):
            machine.go(step)
            self.assertEqual(last_write(machine, "x"), expected)
            self.assertEqual(last_write(machine, "b"), (0, 0))
        self.assertLess(time.process_time() - start, 5)

    def test_wrong_names(self):
        machine = walked("set x = 1", values={"a": 1})
        for wrong in ("y", "", None, 0, True, b"x", ("x",), ["x"], {}):
            with self.assertRaises(UnknownName) as caught:
                last_write(machine, wrong)
            self.assertIs(caught.exception.name, wrong)


class WritesTest(unittest.TestCase):
    def setUp(self):
        self.machine = walked("while a", "  set a = a - 1", "  swap a x", "  swap x a", "end", values={"a": 3})
        self.all = [(14, 4), (13, 3), (12, 2), (9, 4), (8, 3), (7, 2), (4, 4), (3, 3), (2, 2)]

    def test_all(self):
        self.assertEqual(self.machine.now, 17)
        self.assertEqual(list(writes(self.machine, "a")), self.all)
        self.assertEqual(list(writes(self.machine, "x", 100)), [one for one in self.all if one[1] != 2])
        self.assertEqual(list(writes(machine=self.machine, name="a", limit=10**50)), self.all)

    def test_limit(self):
        for limit in range(20):
            self.assertEqual(list(writes(self.machine, "a", limit)), [one for one in self.all if one[0] >= 17 - limit])

    def test_default_limit(self):
        machine = machine_of("set x = 1", "while 1", "  print a", "end", values={"a": 0})
        machine.forward(10000)
        self.assertEqual(list(writes(machine, "x")), [(0, 0)])
        machine.forward()
        self.assertEqual(list(writes(machine, "x")), [])
        self.assertEqual(last_write(machine, "x"), (0, 0))

    def test_it_is_a_generator(self):
        found = writes(self.machine, "a")
        self.assertIs(iter(found), found)
        self.assertEqual(next(found), (14, 4))
        self.assertEqual(next(found), (13, 3))
        # It goes on with the machine as it was when the first element was asked for.
        self.machine.go(0)
        self.assertEqual(list(found), self.all[2:])

    def test_arguments_are_read_when_the_first_element_is_asked_for(self):
        found = writes(self.machine, "a")
        self.machine.go(8)
        self.assertEqual(list(found), self.all[5:])
        for arguments, error in ((("y",), UnknownName), (("a", -1), InvalidCount), ((None, None), UnknownName)):
            found = writes(self.machine, *arguments)
            with self.assertRaises(error):
                next(found)

    def test_wrong_arguments(self):
        for wrong in ("y", None, 0, True, ["a"], b"a"):
            with self.assertRaises(UnknownName) as caught:
                list(writes(self.machine, wrong, None))
            self.assertIs(caught.exception.name, wrong)
        for wrong in (-1, None, True, "1", 1.0, [1]):
            with self.assertRaises(InvalidCount) as caught:
                list(writes(self.machine, "a", wrong))
            self.assertIs(caught.exception.value, wrong)

    def test_great_quiet_loops(self):
        machine = walked("set b = 1", "repeat a", "  set x = x + 1", "end", "repeat a", "  set c = c + 1", "end", "set b = 2",
                         values={"a": BIG}, head="given a\nvar b c x")
        start = time.process_time()
        self.assertEqual(list(writes(machine, "b", 10**60)), [(machine.now - 1, 9), (0, 0)])
        self.assertEqual(list(writes(machine, "a", 10**60)), [])
        found = writes(machine, "x", 10**60)
        last = 1 + 1 + 3 * (BIG - 1) + 1
        self.assertEqual([next(found) for _ in range(3)], [(last - 3 * at, 3) for at in range(3)])
        self.assertEqual(len(list(writes(machine, "c"))), 3333)
        self.assertEqual(list(writes(machine, "x")), [])
        limit = machine.now - last
        self.assertEqual(list(writes(machine, "x", limit)), [(last, 3)])
        self.assertEqual(list(writes(machine, "x", limit - 1)), [])
        self.assertLess(time.process_time() - start, 10)


class LastTrueTest(unittest.TestCase):
    def test_by_hand(self):
        machine = walked("set x = 3", "set a = a - x", "swap a x", "set a = 0", values={"a": 5})
        # a and x: 5 0, 5 3, 2 3, 3 2, 0 2
        self.assertEqual(last_true(machine, A), 3)
        self.assertEqual(last_true(machine, X), 4)
        self.assertEqual(last_true(machine=machine, expression=total(-5, (1, "a"))), 4)
        self.assertEqual(last_true(machine, ("same", A, total(5))), 1)
        self.assertEqual(last_true(machine, ("same", X, total(0))), 0)
        self.assertEqual(last_true(machine, ("less", A, X)), 4)
        self.assertEqual(last_true(machine, ("less", X, A)), 3)
        self.assertIsNone(last_true(machine, ("same", A, total(77))))
        self.assertEqual(last_true(machine, ONE), 4)
        self.assertIsNone(last_true(machine, total(0)))

    def test_limit(self):
        machine = walked("set x = 3", "set a = a - x", "swap a x", "set a = 0", values={"a": 5})
        for limit in range(8):
            self.assertEqual(last_true(machine, ("same", A, total(5)), limit), 1 if limit >= 3 else None)
            self.assertEqual(last_true(machine, X, limit), 4)
        machine.go(2)
        self.assertEqual(last_true(machine, X, 0), 2)
        self.assertIsNone(last_true(machine, ("same", X, total(0)), 1))

    def test_default_limit(self):
        machine = machine_of("set a = 0", "while 1", "  print a", "end", values={"a": 1})
        machine.forward(10000)
        self.assertEqual(last_true(machine, A), 0)
        machine.forward()
        self.assertIsNone(last_true(machine, A))
        self.assertEqual(last_true(machine, A, 10001), 0)

    def test_expressions_that_cannot_be_computed(self):
        machine = walked("set x = 4", "set x = 0", "set x = 3", "set x = 0", "set x = 0", values={"a": 10**300}, inputs=[1, 1])
        self.assertIsNone(last_true(machine, ("read",)))
        # x is 0 4 0 3 0 0
        self.assertEqual(last_true(machine, ("quotient", total(12), X)), 3)
        self.assertEqual(last_true(machine, ("quotient", total(3), X)), 3)
        self.assertEqual(last_true(machine, ("remainder", total(3), X)), 1)
        self.assertEqual(last_true(machine, total(0, (1, "x"), by=4)), 1)
        self.assertEqual(last_true(machine, total(1, (1, "x"), by=2)), 3)
        self.assertEqual(last_true(machine, total(0, (1, "x"), by=3)), 3)
        self.assertEqual(last_true(machine, ("same", total(0, (1, "x"), by=4), total(1))), 1)
        self.assertIsNone(last_true(machine, ("product", A, X)))
        self.assertEqual(last_true(machine, ("product", X, X)), 3)
        self.assertEqual(last_true(machine, ("less", X, A)), 5)

    def test_edits(self):
        machine = machine_of("print x", "print x", values={"a": 5})
        machine.edit("a", 6)
        machine.forward()
        machine.edit("a", 7)
        machine.finish()
        for value, step in ((5, 0), (6, 2), (7, 4), (8, None)):
            self.assertEqual(last_true(machine, ("same", A, total(value))), step)

    def test_great_quiet_loops(self):
        machine = walked("set b = 1", "set b = 0", "repeat a", "  set x = x + 1", "end", values={"a": BIG}, head="given a\nvar b x")
        start = time.process_time()
        self.assertEqual(last_true(machine, X), machine.now)
        self.assertEqual(last_true(machine, ("less", X, A)), machine.now - 3)
        near = ("sum", BIG - 1000, ((-1, "x"),), 1)
        self.assertEqual(last_true(machine, ("same", near, total(0))), machine.now - 1 - 2 - 3 * 999)
        self.assertIsNone(last_true(machine, ("same", X, total(0))))
        self.assertIsNone(last_true(machine, total(0, (1, "b")), 10000))
        self.assertEqual(last_true(machine, total(0, (1, "b")), 10**60), 1)
        self.assertIsNone(last_true(machine, ("same", A, total(4)), 10**60))
        self.assertLess(time.process_time() - start, 10)

    def test_wrong_arguments(self):
        machine = walked("set x = 1", values={"a": 1})
        for wrong in (None, 1, "x", "read", ("read", 1), ["read"], total(0, (1, "y")), total(0, (0, "x")), total(2, by=2), total(10**300),
                      ("product", X), ("plus", X, X), ("same", X, ("read",)), ("sum", True, (), 1), ()):
            with self.assertRaises(InvalidExpression) as caught:
                last_true(machine, wrong, None)
            self.assertIs(caught.exception.value, wrong)
        for wrong in (-1, None, True, "1", 1.0, [1]):
            with self.assertRaises(InvalidCount) as caught:
                last_true(machine, X, wrong)
            self.assertIs(caught.exception.value, wrong)


class OutputsTest(unittest.TestCase):
    def test_by_hand(self):
        machine = walked("print 5", "set x = 1", "print x", "print read", values={"a": 1}, inputs=[9])
        for step, expected in enumerate([(), (5,), (5,), (5, 1), (5, 1, 9)]):
            self.assertEqual(outputs_at(machine, step), expected)
        self.assertEqual(outputs_at(machine=machine, step=4), (5, 1, 9))
        self.assertIs(type(outputs_at(machine, 2)), tuple)

    def test_wrong_steps(self):
        machine = walked("print 5", "print 6", values={"a": 1})
        machine.back()
        for wrong in (-1, 2, 3, 10**40, None, True, False, "1", 1.0, [1]):
            with self.assertRaises(InvalidCount) as caught:
                outputs_at(machine, wrong)
            self.assertIs(caught.exception.value, wrong)

    def test_great_quiet_loops(self):
        machine = walked("print 1", "repeat a", "  set x = x + 2", "end", "print x", values={"a": BIG})
        self.assertEqual(outputs_at(machine, machine.now), (1, 2 * BIG))
        for step in (machine.now - 1, BIG, 2, 1):
            self.assertEqual(outputs_at(machine, step), (1,))
        self.assertEqual(outputs_at(machine, 0), ())


class HistoryTest(unittest.TestCase):
    """Answers are those of the full history, and the machine stays as it is."""

    def value(self, program, expression, state):
        walk = Walk(program, {}, ())
        walk.state = state
        try:
            return walk.value(expression, None)
        except Failure:
            return 0

    def check(self, rng, machine, history, written):
        """The history is a list of states and outputs; `written` are the step, the address and the names of steps."""
        before = facts(machine)
        now = machine.now
        for name in machine.program.names:
            expected = [(step, address) for step, address, names in written[::-1] if name in names]
            self.assertEqual(last_write(machine, name), expected[0] if expected else None)
            for limit in (0, now, rng.randrange(now + 2)):
                self.assertEqual(list(writes(machine, name, limit)), [one for one in expected if one[0] >= now - limit])
        for _ in range(6):
            expression = lively_expression(rng, list(machine.program.names))
            limit = rng.choice((now + 5, rng.randrange(now + 2)))
            steps = [step for step in range(max(now - limit, 0), now + 1)
                     if self.value(machine.program, expression, history[step][0])]
            self.assertEqual(last_true(machine, expression, limit), steps[-1] if steps else None)
        for step in {0, now, rng.randrange(now + 1)}:
            self.assertEqual(outputs_at(machine, step), history[step][1])
        self.assertEqual(facts(machine), before)

    def test_random_runs(self):
        rng = random.Random(27)
        for made in range(120):
            program = lively_program(rng)
            machine = Machine(program, *lively_start(rng, program))
            history, written = [(machine.state, machine.outputs)], []
            for _ in range(120):
                if made % 2 and rng.randrange(4) == 0 and not machine.stack:
                    try:
                        machine.edit(rng.choice(program.names), rng.randrange(-3, 4))
                        history.append((machine.state, machine.outputs))
                    except Unfitting:
                        pass
                instruction, here = program.code[machine.here], machine.here
                try:
                    machine.forward()
                except (RunError, IndexError):
                    break
                if instruction[0] in ("set", "swap"):
                    written.append((machine.now - 1, here, [part for part in instruction[1:] if isinstance(part, str)]))
                history.append((machine.state, machine.outputs))
            self.check(rng, machine, history, written)
            machine.go(rng.randrange(machine.now + 1))
            now = machine.now
            self.check(rng, machine, history[:now + 1], [one for one in written if one[0] < now])


if __name__ == "__main__":
    unittest.main()
