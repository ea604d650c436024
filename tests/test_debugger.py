import random
import time
import unittest

from frugaltape.debugger import Debugger
from frugaltape.errors import (
    AtEnd, InvalidAddress, InvalidCount, InvalidExpression, NoInput, NothingToUndo, RunError, Unfitting, UnknownBreakpoint,
    ZeroDivisor,
)
from frugaltape.machine import Machine
from frugaltape.questions import last_true
from samples import A, ONE, X, lively_expression, lively_program, lively_start, total
from test_machine import facts, machine_of

BIG = 10**35
WRONG_COUNTS = (-1, None, True, False, "1", 1.0, [1], -BIG)
COUNTING = ("while a", "  set a = a - 1", "  print x", "end", "set x = 5", "print read")


def told(debugger):
    """All that a debugger tells of itself, but for its watch."""
    return facts(debugger.snapshot()), debugger.breakpoints, len(debugger)


def counting(value=3, inputs=()):
    return Debugger(machine_of(*COUNTING, values={"a": value}, inputs=inputs))


class StartTest(unittest.TestCase):
    def test_at_first(self):
        machine = machine_of(*COUNTING, values={"a": 3}, inputs=[4])
        machine.forward(5)
        debugger = Debugger(machine=machine)
        self.assertEqual(debugger.snapshot(), machine)
        self.assertEqual(debugger.breakpoints, ())
        self.assertEqual(len(debugger), 0)
        with self.assertRaises(NothingToUndo):
            debugger.undo()

    def test_it_keeps_a_copy(self):
        machine = machine_of(*COUNTING, values={"a": 3})
        debugger = Debugger(machine)
        before = facts(machine)
        debugger.resume(7)
        debugger.jump(2)
        self.assertEqual(facts(machine), before)
        machine.forward(5)
        self.assertEqual(debugger.snapshot().now, 2)

    def test_snapshots_are_copies(self):
        debugger = counting()
        snapshot = debugger.snapshot()
        snapshot.forward(3)
        self.assertEqual(debugger.snapshot().now, 0)
        debugger.jump(4)
        self.assertEqual(snapshot.now, 3)


class BreakpointTest(unittest.TestCase):
    def test_they_are_ascending_and_different(self):
        debugger = counting()
        for address, expected in ((6, (6,)), (0, (0, 6)), (7, (0, 6, 7)), (6, (0, 6, 7)), (3, (0, 3, 6, 7))):
            self.assertIsNone(debugger.stop_at(address))
            self.assertEqual(debugger.breakpoints, expected)
        self.assertIs(type(debugger.breakpoints), tuple)
        self.assertIsNone(debugger.forget(6))
        self.assertEqual(debugger.breakpoints, (0, 3, 7))
        debugger.forget(address=0)
        debugger.stop_at(address=1)
        self.assertEqual(debugger.breakpoints, (1, 3, 7))

    def test_an_existing_one_is_a_command(self):
        debugger = counting()
        debugger.stop_at(3)
        debugger.stop_at(3)
        self.assertEqual((debugger.breakpoints, len(debugger)), ((3,), 2))
        debugger.undo()
        self.assertEqual((debugger.breakpoints, len(debugger)), ((3,), 1))
        debugger.undo()
        self.assertEqual((debugger.breakpoints, len(debugger)), ((), 0))

    def test_wrong_addresses(self):
        debugger = counting()
        debugger.stop_at(1)
        debugger.stop_at(0)
        before = told(debugger)
        for wrong in (-1, 8, BIG, None, True, False, "1", 1.0, [1], {}, (1,)):
            for call in (debugger.stop_at, debugger.forget):
                with self.assertRaises(InvalidAddress) as caught:
                    call(wrong)
                self.assertIs(caught.exception.value, wrong)
        for unknown in (2, 7):
            with self.assertRaises(UnknownBreakpoint) as caught:
                debugger.forget(unknown)
            self.assertEqual(caught.exception.address, unknown)
        self.assertEqual(told(debugger), before)


class ResumeTest(unittest.TestCase):
    def test_to_the_end_or_an_error(self):
        debugger = counting(inputs=[9])
        self.assertEqual(debugger.resume(), ("end", 16))
        self.assertEqual(debugger.snapshot().outputs, (0, 0, 0, 9))
        debugger = counting()
        self.assertEqual(debugger.resume(), ("error", 6))
        self.assertEqual((debugger.snapshot().here, debugger.snapshot().now), (6, 15))
        self.assertEqual(debugger.resume(), ("error", 6))
        self.assertEqual(debugger.resume(0), ("error", 6))

    def test_breakpoints(self):
        debugger = counting()
        debugger.stop_at(3)
        debugger.stop_at(5)
        steps = []
        for _ in range(4):
            found = debugger.resume()
            steps.append((*found, debugger.snapshot().now))
        self.assertEqual(steps, [("break", 3, 3), ("break", 3, 7), ("break", 3, 11), ("break", 5, 14)])
        # At least one step is made where a breakpoint stands.
        debugger.jump(3)
        self.assertEqual(debugger.resume(2), ("limit", 5))
        debugger.jump(3)
        self.assertEqual(debugger.resume(4), ("break", 3))

    def test_the_watch(self):
        debugger = counting()
        self.assertIsNone(debugger.watch(("same", A, ONE)))
        self.assertEqual(debugger.resume(), ("watch", 7))
        # It is still true; a step is made.
        self.assertEqual(debugger.resume(), ("watch", 8))
        debugger.watch(expression=X)
        self.assertEqual(debugger.resume(), ("watch", 15))
        debugger.watch(None)
        self.assertEqual(debugger.resume(), ("error", 6))
        debugger.jump(0)
        debugger.watch(("read",))
        self.assertEqual(debugger.resume(), ("error", 6))

    def test_a_watch_that_cannot_be_computed(self):
        debugger = counting()
        debugger.watch(("quotient", total(6), total(-3, (1, "a"))))
        self.assertEqual(debugger.resume(), ("watch", 3))
        debugger.watch(total(-1, (1, "a"), by=2))
        # a is 2 up to step 6, 1 up to step 10, then 0
        self.assertEqual(debugger.resume(), ("error", 6))

    def test_the_order(self):
        # Break comes before watch, watch before end, end before limit, error before limit.
        debugger = counting(inputs=[9])
        debugger.stop_at(7)
        debugger.watch(X)
        debugger.jump(15)
        self.assertEqual(debugger.resume(1), ("break", 7))
        debugger.undo()
        debugger.forget(7)
        self.assertEqual(debugger.resume(1), ("watch", 16))
        debugger.undo()
        debugger.watch(None)
        self.assertEqual(debugger.resume(1), ("end", 16))
        other = counting()
        other.jump(14)
        other.stop_at(6)
        other.watch(X)
        self.assertEqual(other.resume(1), ("break", 6))
        other.undo()
        other.forget(6)
        self.assertEqual(other.resume(1), ("watch", 15))
        other.undo()
        other.watch(None)
        self.assertEqual(other.resume(1), ("error", 6))
        other.undo()
        self.assertEqual(other.resume(0), ("limit", 14))

    def test_limits(self):
        debugger = counting()
        self.assertEqual(debugger.resume(limit=4), ("limit", 4))
        self.assertEqual(debugger.resume(3), ("limit", 7))
        self.assertEqual(debugger.resume(10**50), ("error", 6))
        endless = Debugger(machine_of("while 1", "end", values={"a": 0}))
        self.assertEqual(endless.resume(), ("limit", 10000))
        self.assertEqual(endless.reverse(9000), ("limit", 1000))
        endless.resume()
        endless.resume()
        self.assertEqual(endless.reverse(), ("limit", 11000))

    def test_limit_0(self):
        debugger = counting(inputs=[9])
        for address in range(8):
            debugger.stop_at(address)
        debugger.watch(ONE)
        self.assertEqual(debugger.resume(0), ("limit", 0))
        self.assertEqual(debugger.reverse(0), ("start", 0))
        debugger.jump(16)
        self.assertEqual(debugger.resume(0), ("end", 16))
        self.assertEqual(debugger.reverse(0), ("limit", 16))
        debugger.jump(5)
        self.assertEqual(debugger.resume(0), ("limit", 5))
        self.assertEqual(debugger.reverse(0), ("limit", 5))

    def test_where_no_step_can_be_made(self):
        debugger = counting(inputs=[9])
        for address in range(8):
            debugger.stop_at(address)
        debugger.watch(ONE)
        self.assertEqual(debugger.reverse(), ("start", 0))
        debugger.jump(16)
        self.assertEqual(debugger.resume(), ("end", 16))
        other = Debugger(machine_of("set x = quotient(1, a)", values={"a": 0}))
        other.stop_at(0)
        other.watch(ONE)
        self.assertEqual(other.resume(), ("error", 0))
        self.assertEqual(other.resume(0), ("error", 0))
        with self.assertRaises(ZeroDivisor):
            other.snapshot().forward()

    def test_wrong_limits(self):
        debugger = counting()
        debugger.jump(4)
        before = told(debugger)
        for wrong in WRONG_COUNTS:
            for call in (debugger.resume, debugger.reverse):
                with self.assertRaises(InvalidCount) as caught:
                    call(wrong)
                self.assertIs(caught.exception.value, wrong)
        self.assertEqual(told(debugger), before)


class ReverseTest(unittest.TestCase):
    def test_breakpoints_and_the_start(self):
        debugger = counting(inputs=[9])
        debugger.resume()
        debugger.stop_at(3)
        debugger.stop_at(0)
        found = [debugger.reverse() for _ in range(5)]
        self.assertEqual(found, [("break", 3)] * 3 + [("break", 0), ("start", 0)])
        debugger.forget(0)
        debugger.resume()
        self.assertEqual((debugger.snapshot().here, debugger.snapshot().now), (3, 3))
        self.assertEqual(debugger.reverse(), ("start", 0))
        self.assertEqual(debugger.reverse(5), ("start", 0))

    def test_the_watch_and_the_order(self):
        debugger = counting(inputs=[9])
        debugger.resume()
        debugger.watch(("same", A, ONE))
        self.assertEqual(debugger.reverse(), ("watch", 10))
        self.assertEqual(debugger.reverse(), ("watch", 9))
        debugger.stop_at(3)
        debugger.jump(8)
        self.assertEqual(debugger.reverse(1), ("break", 3))
        debugger.undo()
        debugger.forget(3)
        self.assertEqual(debugger.reverse(1), ("watch", 7))
        debugger.watch(("same", A, total(3)))
        debugger.jump(1)
        debugger.stop_at(0)
        self.assertEqual(debugger.reverse(1), ("break", 0))
        debugger.undo()
        debugger.forget(0)
        self.assertEqual(debugger.reverse(1), ("watch", 0))
        debugger.undo()
        debugger.watch(None)
        self.assertEqual(debugger.reverse(1), ("start", 0))
        debugger.jump(5)
        self.assertEqual(debugger.reverse(limit=2), ("limit", 3))

    def test_no_error_of_the_next_step_is_asked_for(self):
        debugger = counting()
        debugger.resume()
        self.assertEqual(debugger.reverse(0), ("limit", 15))
        self.assertEqual(debugger.reverse(1), ("limit", 14))


class JumpTest(unittest.TestCase):
    def test_it_goes_as_machines_do(self):
        machine = machine_of(*COUNTING, values={"a": 3}, inputs=[9])
        debugger = Debugger(machine)
        debugger.stop_at(3)
        debugger.watch(ONE)
        for step in (5, 16, 2, 2, 0, 11):
            machine.go(step)
            self.assertIsNone(debugger.jump(step))
            self.assertEqual(facts(debugger.snapshot()), facts(machine))
        self.assertEqual(len(debugger), 8)
        debugger.jump(step=3)
        self.assertEqual(debugger.snapshot().now, 3)

    def test_errors_are_no_commands(self):
        debugger = counting(inputs=[9])
        debugger.jump(7)
        before = told(debugger)
        for wrong in WRONG_COUNTS:
            with self.assertRaises(InvalidCount) as caught:
                debugger.jump(wrong)
            self.assertIs(caught.exception.value, wrong)
        with self.assertRaises(AtEnd) as caught:
            debugger.jump(17)
        self.assertEqual(caught.exception.step, 16)
        self.assertEqual(told(debugger), before)
        other = counting()
        with self.assertRaises(NoInput):
            other.jump(16)
        self.assertEqual((other.snapshot().now, len(other)), (0, 0))


class WatchTest(unittest.TestCase):
    def test_wrong_expressions(self):
        debugger = counting()
        debugger.watch(X)
        before = told(debugger)
        for wrong in (0, "x", "read", ("read", 1), ["read"], total(0, (1, "y")), total(2, by=2), total(10**300), (), False,
                      ("product", X), ("same", X, ("read",)), ("sum", True, (), 1), ("sum", 0, [], 1)):
            with self.assertRaises(InvalidExpression) as caught:
                debugger.watch(wrong)
            self.assertIs(caught.exception.value, wrong)
        self.assertEqual(told(debugger), before)
        # The watch is still x.
        self.assertEqual(debugger.resume(), ("watch", 15))


class UndoTest(unittest.TestCase):
    def test_each_kind_of_command(self):
        debugger = counting(inputs=[9])
        commands = (
            lambda: debugger.stop_at(3), lambda: debugger.stop_at(5), lambda: debugger.resume(), lambda: debugger.forget(3),
            lambda: debugger.watch(X), lambda: debugger.resume(), lambda: debugger.watch(X), lambda: debugger.jump(4),
            lambda: debugger.jump(4), lambda: debugger.reverse(), lambda: debugger.reverse(), lambda: debugger.watch(None),
            lambda: debugger.resume(0), lambda: debugger.resume(),
        )
        history = []
        for command in commands:
            history.append(told(debugger))
            command()
            self.assertEqual(len(debugger), len(history))
        while history:
            self.assertIsNone(debugger.undo())
            self.assertEqual(told(debugger), history.pop())
        with self.assertRaises(NothingToUndo):
            debugger.undo()

    def test_the_watch_is_restored(self):
        debugger = counting(inputs=[9])
        debugger.watch(("same", A, ONE))
        debugger.watch(X)
        debugger.watch(None)
        debugger.undo()
        self.assertEqual(debugger.resume(), ("watch", 15))
        debugger.undo()
        debugger.undo()
        self.assertEqual(debugger.resume(), ("watch", 7))
        debugger.undo()
        debugger.undo()
        self.assertEqual(len(debugger), 0)
        self.assertEqual(debugger.resume(), ("end", 16))

    def test_commands_that_change_nothing(self):
        debugger = counting()
        debugger.resume(0)
        debugger.reverse()
        debugger.watch(None)
        debugger.jump(0)
        debugger.stop_at(2)
        debugger.stop_at(2)
        self.assertEqual(len(debugger), 6)
        for left in range(5, -1, -1):
            debugger.undo()
            self.assertEqual(len(debugger), left)

    def test_after_an_undo(self):
        debugger = counting()
        debugger.stop_at(3)
        debugger.resume()
        debugger.undo()
        debugger.stop_at(5)
        self.assertEqual((debugger.breakpoints, len(debugger), debugger.snapshot().now), ((3, 5), 2, 0))
        debugger.undo()
        debugger.undo()
        self.assertEqual((debugger.breakpoints, len(debugger)), ((), 0))


class AttemptTest(unittest.TestCase):
    def setUp(self):
        self.debugger = counting(inputs=[9])
        self.debugger.stop_at(3)
        self.debugger.watch(("same", A, ONE))
        self.debugger.resume()

    def check(self, before):
        self.assertEqual(told(self.debugger), before)
        # The watch and what can be undone are as before, too.
        self.debugger.forget(3)
        self.assertEqual(self.debugger.resume(), ("watch", 7))
        for _ in range(3):
            self.debugger.undo()
        self.assertEqual((self.debugger.snapshot().now, self.debugger.breakpoints, len(self.debugger)), (0, (3,), 2))
        self.debugger.undo()
        self.assertEqual((self.debugger.resume(), len(self.debugger)), (("break", 3), 2))

    def change(self, debugger):
        debugger.watch(None)
        debugger.stop_at(1)
        debugger.resume()
        debugger.forget(3)
        debugger.undo()
        debugger.undo()
        debugger.jump(12)

    def test_a_function_that_returns(self):
        def visitor(debugger):
            self.assertIs(debugger, self.debugger)
            self.change(debugger)
            return [debugger.snapshot().now, debugger.breakpoints]
        before = told(self.debugger)
        self.assertEqual(self.debugger.attempt(visitor), [12, (1, 3)])
        self.check(before)

    def test_a_function_that_raises_an_error(self):
        class Own(BaseException):
            pass

        def visitor(debugger):
            self.change(debugger)
            raise Own()
        before = told(self.debugger)
        with self.assertRaises(Own):
            self.debugger.attempt(visitor=visitor)
        self.check(before)

    def test_a_function_that_undoes_what_was_before(self):
        def visitor(debugger):
            while len(debugger):
                debugger.undo()
            return debugger.resume()
        before = told(self.debugger)
        self.assertEqual(self.debugger.attempt(visitor), ("end", 16))
        self.check(before)

    def test_errors_of_the_debugger(self):
        before = told(self.debugger)
        with self.assertRaises(AtEnd):
            self.debugger.attempt(lambda debugger: debugger.jump(99))
        with self.assertRaises(NothingToUndo):
            self.debugger.attempt(lambda debugger: [debugger.undo() for _ in range(9)])
        self.check(before)

    def test_attempts_in_attempts(self):
        def inner(debugger):
            debugger.jump(9)
            debugger.undo()
            debugger.undo()
            return debugger.snapshot().now

        def outer(debugger):
            debugger.jump(5)
            before = told(debugger)
            self.assertEqual(debugger.attempt(inner), 3)
            self.assertEqual(told(debugger), before)
            return debugger.attempt
        before = told(self.debugger)
        self.debugger.attempt(outer)
        self.check(before)

    def test_an_attempt_is_no_command(self):
        self.debugger.attempt(lambda debugger: None)
        self.assertEqual(len(self.debugger), 3)
        self.assertEqual(self.debugger.attempt(len), 3)


class EditsTest(unittest.TestCase):
    def test_a_machine_with_edits(self):
        machine = machine_of(*COUNTING, values={"a": 3}, inputs=[9])
        machine.forward(4)
        machine.edit("a", 1)
        machine.forward()
        before = facts(machine)
        debugger = Debugger(machine)
        debugger.resume(2)
        self.assertEqual(debugger.snapshot().edits, ((4, "a", 2, 1),))
        self.assertEqual(debugger.resume(), ("end", 13))
        debugger.watch(("same", A, total(2)))
        self.assertEqual(debugger.reverse(), ("watch", 4))
        self.assertEqual(debugger.snapshot().edits, ())
        debugger.watch(None)
        # The run goes on as if there had been no edit.
        self.assertEqual(debugger.resume(), ("end", 16))
        while len(debugger):
            debugger.undo()
        self.assertEqual(facts(debugger.snapshot()), before)
        self.assertEqual(debugger.snapshot(), machine)
        debugger.jump(0)
        self.assertEqual(facts(machine), before)
        debugger.undo()
        self.assertEqual(debugger.snapshot(), machine)


class GreatLoopTest(unittest.TestCase):
    def setUp(self):
        self.start = time.process_time()
        lines = ("set b = 3", "repeat a", "  set x = x + 2", "  swap x c", "  swap c x", "end", "print x", "set b = 4")
        self.debugger = Debugger(machine_of(*lines, values={"a": BIG}, head="given a\nvar b c x"))

    def tearDown(self):
        self.assertLess(time.process_time() - self.start, 5)

    def test_over_it(self):
        debugger = self.debugger
        debugger.stop_at(7)
        self.assertEqual(debugger.resume(BIG * 9), ("break", 7))
        self.assertEqual((debugger.snapshot().now, debugger.snapshot()["x"]), (3 + 5 * BIG, 2 * BIG))
        self.assertEqual(debugger.reverse(BIG * 9), ("start", 0))
        debugger.forget(7)
        debugger.watch(("same", total(0, (1, "b")), total(4)))
        self.assertEqual(debugger.resume(BIG * 9), ("watch", 5 + 5 * BIG))
        debugger.watch(("same", total(0, (1, "b")), total(0)))
        self.assertEqual(debugger.reverse(BIG * 9), ("watch", 0))
        self.assertEqual(debugger.resume(4), ("limit", 4))
        self.assertEqual(debugger.resume(5 * BIG - 4), ("limit", 5 * BIG))
        self.assertEqual(debugger.reverse(5 * BIG - 10), ("limit", 10))
        self.assertEqual(debugger.resume(BIG * 9), ("end", 5 + 5 * BIG))

    def test_a_breakpoint_in_it(self):
        debugger = self.debugger
        for address in range(2, 7):
            debugger.stop_at(address)
            found = [(*debugger.resume(), debugger.snapshot().now) for _ in range(3)]
            self.assertEqual(found, [("break", address, address + 5 * done) for done in range(3)])
            debugger.jump(5 * BIG - 5)
            found = [(*debugger.reverse(), debugger.snapshot().now % 5) for _ in range(3)]
            self.assertEqual(found, [("break", address, address % 5)] * 3)
            debugger.forget(address)
            debugger.jump(0)

    def test_a_watch_that_is_true_all_the_time(self):
        debugger = self.debugger
        debugger.jump(BIG - BIG % 5 + 2)
        debugger.watch(total(0, (1, "b")))
        now = debugger.snapshot().now
        self.assertEqual(debugger.snapshot().here, 2)
        self.assertEqual(debugger.resume(BIG), ("watch", now + 1))
        debugger.undo()
        self.assertEqual(debugger.reverse(BIG), ("watch", now - 1))

    def test_a_watch_that_changes_in_it(self):
        debugger = self.debugger
        debugger.jump(2)
        debugger.watch(("same", total(0, (1, "x")), total(8)))
        self.assertEqual(debugger.resume(BIG), ("watch", 19))
        # In the swapped state of each round x is 0, c is not.
        debugger.watch(total(0, (1, "c")))
        self.assertEqual(debugger.resume(BIG), ("watch", 20))
        self.assertEqual(debugger.resume(BIG), ("watch", 25))
        self.assertEqual(debugger.reverse(BIG), ("watch", 20))

    def test_loops_that_are_not_quiet(self):
        lines = ("repeat a", "  set x = 2 * x + 1", "end")
        debugger = Debugger(machine_of(*lines, values={"a": BIG}))
        self.assertEqual(debugger.resume(100), ("limit", 100))
        self.assertEqual(debugger.reverse(50), ("limit", 50))

    def test_loops_without_rounds(self):
        lines = ("repeat a", "  set x = x + 1", "end")
        for value in (0, -BIG):
            debugger = Debugger(machine_of(*lines, values={"a": value}))
            self.assertEqual(debugger.resume(), ("end", 2))
            self.assertEqual(debugger.reverse(), ("start", 0))


def naive(debugger, way, limit, watch):
    """What `resume` or `reverse` returns, by a machine that is moved step by step, and this machine."""
    machine = debugger.snapshot()
    points = debugger.breakpoints
    for made in range(limit + 1):
        if made > 0:
            if machine.here in points:
                return ("break", machine.here), machine
            if watch is not None and last_true(machine, watch, 0) is not None:
                return ("watch", machine.now), machine
        if way == "resume":
            if machine.is_done:
                return ("end", machine.now), machine
            try:
                machine.forward()
            except RunError as error:
                return ("error", error.address), machine
            if made == limit:
                machine.back()
        elif machine.now == 0:
            return ("start", 0), machine
        elif made < limit:
            machine.back()
    return ("limit", machine.now), machine


class RandomTest(unittest.TestCase):
    def edit(self, rng, machine):
        try:
            machine.edit(rng.choice(machine.program.names), rng.randrange(-3, 4))
        except Unfitting:
            pass

    def command(self, rng, debugger, watch, words):
        """Give a random command, and return the watch behind it."""
        kind = rng.randrange(8)
        if kind == 0:
            debugger.stop_at(rng.randrange(len(debugger.snapshot().program.code)))
        elif kind == 1:
            watch = rng.choice((None, lively_expression(rng, list(debugger.snapshot().program.names))))
            debugger.watch(watch)
        elif kind == 2 and debugger.breakpoints:
            debugger.forget(rng.choice(debugger.breakpoints))
        else:
            way, limit = rng.choice(("resume", "reverse", "resume")), rng.choice((0, 1, 5, 200))
            expected, moved = naive(debugger, way, limit, watch)
            found = getattr(debugger, way)(limit)
            self.assertEqual((found, facts(debugger.snapshot())), (expected, facts(moved)))
            words[found[0]] = words.get(found[0], 0) + 1
        return watch

    def test_random_commands(self):
        rng = random.Random(28)
        words = {}
        for _ in range(150):
            program = lively_program(rng)
            machine = Machine(program, *lively_start(rng, program))
            self.edit(rng, machine)
            debugger, watch = Debugger(machine), None
            history = []
            for _ in range(30):
                if history and rng.randrange(4) == 0:
                    before, watch = history.pop()
                    debugger.undo()
                    self.assertEqual(told(debugger), before)
                else:
                    history.append((told(debugger), watch))
                    watch = self.command(rng, debugger, watch, words)
                self.assertEqual(len(debugger), len(history))
        self.assertGreater(min(words[word] for word in "break watch end start error limit".split()), 50)


if __name__ == "__main__":
    unittest.main()
