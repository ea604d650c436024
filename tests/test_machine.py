import random
import unittest

from frugaltape import errors
from frugaltape.analysis import Analysis
from frugaltape.errors import (
    AtEnd, AtStart, InvalidCount, InvalidInputs, InvalidProgram, InvalidValues, RunError, StepLimit, UnknownName,
)
from frugaltape.machine import Machine
from frugaltape.programs import Program
from frugaltape.texts import parse_program
from oracles import Walk
from samples import lively_program, lively_start, text_of

EXAMPLE = parse_program("given a\nvar x\nmain\n  set x = 2 * a + 1\n  set a = read\nend")
COUNTDOWN = parse_program("given a\nvar x\nmain\n  while a\n    set a = a - 1\n    set x = read\n    print x\n  end\nend")


def facts(machine):
    """All that a machine tells of itself."""
    return (machine.program, machine.here, machine.now, machine.state, machine.stack, machine.tape, machine.inputs,
            machine.read_count, machine.outputs, machine.is_done, machine.full_length, machine.edits)


def machine_of(*lines, values=None, inputs=(), head="given a\nvar x"):
    return Machine(parse_program(text_of(*lines, head=head)), values or {}, inputs)


class StartTest(unittest.TestCase):
    def test_examples_of_the_interface(self):
        machine = Machine(EXAMPLE, {"a": 5}, [7])
        self.assertIsNone(machine.finish())
        self.assertEqual((machine["a"], machine["x"], machine.tape, machine.full_length), (7, 11, (), 2))
        self.assertIsNone(machine.back(2))
        self.assertEqual((machine["a"], machine["x"], machine.read_count), (5, 0, 0))

    def test_the_start_of_a_run(self):
        machine = Machine(EXAMPLE, {"a": -4}, [7, 8])
        self.assertEqual(facts(machine), (EXAMPLE, 0, 0, {"a": -4, "x": 0}, (), (), (7, 8), 0, (), False, 0, ()))
        self.assertIs(machine.is_done, False)
        self.assertIs(type(machine.state), dict)
        for value in (machine.stack, machine.tape, machine.inputs, machine.outputs, machine.edits):
            self.assertIs(type(value), tuple)

    def test_inputs_may_be_left_out(self):
        self.assertEqual(Machine(EXAMPLE, {"a": 1}).inputs, ())
        self.assertEqual(Machine(program=EXAMPLE, values={"a": 1}, inputs=(3,)).inputs, (3,))

    def test_a_program_that_is_done_at_once(self):
        machine = Machine(parse_program("given a\nmain\nend"), {"a": 1})
        self.assertIs(machine.is_done, True)
        machine.finish(0)
        self.assertEqual(machine.now, 0)

    def test_wrong_programs(self):
        for wrong in (None, 1, "main\nend", Program, EXAMPLE.code, {}):
            with self.assertRaises(InvalidProgram) as caught:
                Machine(wrong, None, None)
            self.assertIsNone(caught.exception.part)

    def test_wrong_values(self):
        for wrong in (None, {}, {"a": True}, {"a": 1, "x": 0}, {"x": 1}, ["a"], {"a": "1"}, {"a": None}, "a"):
            with self.assertRaises(InvalidValues) as caught:
                Machine(EXAMPLE, wrong, None)
            self.assertIs(caught.exception.value, wrong)

    def test_wrong_inputs(self):
        for wrong, position in ((None, None), (5, None), ("1", None), ({}, None), ([True], 0), ((1, None), 1), ([1, 2, "3"], 2)):
            with self.assertRaises(InvalidInputs) as caught:
                Machine(EXAMPLE, {"a": 1}, wrong)
            self.assertEqual(caught.exception.position, position)

    def test_values_and_inputs_are_copied(self):
        values, inputs = {"a": 1}, [2]
        machine = Machine(EXAMPLE, values, inputs)
        values["a"] = 5
        inputs[0] = 6
        machine.state["a"] = 7
        machine.finish()
        self.assertEqual((machine["a"], machine["x"], machine.inputs), (2, 3, (2,)))
        machine.back(2)
        self.assertEqual(machine.state, {"a": 1, "x": 0})
        self.assertEqual((values, inputs), ({"a": 5}, [6]))

    def test_values_by_name(self):
        machine = Machine(EXAMPLE, {"a": 4})
        self.assertEqual((machine["a"], machine["x"]), (4, 0))
        for wrong in ("y", "", "A", None, 0, True, b"a", ("a",), ["a"], {}, slice(1)):
            with self.assertRaises(UnknownName) as caught:
                machine[wrong]
            self.assertIs(caught.exception.name, wrong)


class StepTest(unittest.TestCase):
    """Each kind of step, forward and back."""

    def check(self, machine, *expected):
        """The (here, state, stack, tape, read_count, outputs, full_length) of each configuration, there and back."""
        found = []
        for now, told in enumerate(expected):
            self.assertEqual(machine.now, now)
            found.append(facts(machine))
            here, a, x, stack, tape, read_count, outputs, full_length = told
            self.assertEqual((machine.here, machine.state, machine.stack, machine.tape), (here, {"a": a, "x": x}, stack, tape))
            self.assertEqual((machine.read_count, machine.outputs, machine.full_length), (read_count, outputs, full_length))
            if now + 1 < len(expected):
                machine.forward()
        self.assertIs(machine.is_done, True)
        for told in found[::-1]:
            self.assertEqual(facts(machine), told)
            if machine.now > 0:
                machine.back()

    def test_set(self):
        self.check(machine_of("set x = a + 3", "set a = read", "set a = 2 * x", "set x = 1", values={"a": 5}, inputs=[9]),
                   (0, 5, 0, (), (), 0, (), 0), (1, 5, 8, (), (), 0, (), 1), (2, 9, 8, (), (), 1, (), 2),
                   (3, 16, 8, (), (9,), 1, (), 3), (4, 16, 1, (), (9,), 1, (), 4))

    def test_swap_and_print(self):
        self.check(machine_of("swap a x", "print x + 1", "print read", "swap x a", values={"a": 5}, inputs=[-9]),
                   (0, 5, 0, (), (), 0, (), 0), (1, 0, 5, (), (), 0, (), 0), (2, 0, 5, (), (), 0, (6,), 0),
                   (3, 0, 5, (), (), 1, (6, -9), 0), (4, 5, 0, (), (), 1, (6, -9), 0))

    def test_if(self):
        lines = ("if read", "  swap a x", "else", "  print 1", "end")
        self.check(machine_of(*lines, values={"a": 5}, inputs=[3]),
                   (0, 5, 0, (), (), 0, (), 0), (1, 5, 0, (), (), 1, (), 0), (2, 0, 5, (), (), 1, (), 0),
                   (5, 0, 5, (), (1,), 1, (), 1))
        self.check(machine_of(*lines, values={"a": 5}, inputs=[0]),
                   (0, 5, 0, (), (), 0, (), 0), (3, 5, 0, (), (), 1, (), 0), (4, 5, 0, (), (), 1, (1,), 0),
                   (5, 5, 0, (), (0,), 1, (1,), 1))

    def test_an_if_whose_ways_are_apart(self):
        lines = ("if a", "  set x = 2", "end")
        self.check(machine_of(*lines, values={"a": -5}),
                   (0, -5, 0, (), (), 0, (), 0), (1, -5, 0, (), (), 0, (), 0), (2, -5, 2, (), (), 0, (), 1),
                   (4, -5, 2, (), (), 0, (), 2))
        self.check(machine_of(*lines, values={"a": 0}),
                   (0, 0, 0, (), (), 0, (), 0), (3, 0, 0, (), (), 0, (), 0), (4, 0, 0, (), (), 0, (), 1))

    def test_while(self):
        self.check(machine_of("while a", "  set a = a - 1", "end", values={"a": 1}),
                   (0, 1, 0, (), (), 0, (), 0), (1, 1, 0, (), (0,), 0, (), 1), (2, 1, 0, (), (0,), 0, (), 1),
                   (3, 0, 0, (), (0,), 0, (), 2), (1, 0, 0, (), (0, 1), 0, (), 3), (4, 0, 0, (), (0, 1), 0, (), 3))

    def test_repeat(self):
        self.check(machine_of("repeat read", "  print 1", "end", values={"a": 1}, inputs=[2]),
                   (0, 1, 0, (), (), 0, (), 0), (1, 1, 0, ((2, 0),), (), 1, (), 0),
                   (2, 1, 0, ((2, 1),), (), 1, (), 0), (3, 1, 0, ((2, 1),), (), 1, (1,), 0),
                   (1, 1, 0, ((2, 1),), (), 1, (1,), 0),
                   (2, 1, 0, ((2, 2),), (), 1, (1,), 0), (3, 1, 0, ((2, 2),), (), 1, (1, 1), 0),
                   (1, 1, 0, ((2, 2),), (), 1, (1, 1), 0), (4, 1, 0, (), (2,), 1, (1, 1), 1))

    def test_repeat_without_rounds(self):
        for rounds in (0, -1, -(10**50)):
            self.check(machine_of("repeat read", "  print 1", "end", values={"a": 1}, inputs=[rounds]),
                       (0, 1, 0, (), (), 0, (), 0), (1, 1, 0, ((rounds, 0),), (), 1, (), 0),
                       (4, 1, 0, (), (rounds,), 1, (), 1))
            self.check(machine_of("repeat a", "  print 1", "end", values={"a": rounds}),
                       (0, rounds, 0, (), (), 0, (), 0), (1, rounds, 0, ((rounds, 0),), (), 0, (), 0),
                       (4, rounds, 0, (), (), 0, (), 1))

    def test_calls(self):
        head = "given a\nvar x\nproc p\n  set x = a\nend\nproc q\n  call p\nend"
        self.check(machine_of("call q", "call p", values={"a": 1}, head=head),
                   (0, 1, 0, (), (), 0, (), 0), (5, 1, 0, (1,), (), 0, (), 0), (3, 1, 0, (1, 6), (), 0, (), 0),
                   (4, 1, 1, (1, 6), (0,), 0, (), 1), (6, 1, 1, (1,), (0,), 0, (), 1), (1, 1, 1, (), (0,), 0, (), 1),
                   (3, 1, 1, (2,), (0,), 0, (), 1), (4, 1, 1, (2,), (0, 1), 0, (), 2), (2, 1, 1, (), (0, 1), 0, (), 2))

    def test_empty_procedures_and_blocks(self):
        head = "given a\nvar x\nproc p\nend"
        self.check(machine_of("if a", "  call p", "end", "repeat 1", "end", values={"a": 1}, head=head),
                   (0, 1, 0, (), (), 0, (), 0), (1, 1, 0, (), (), 0, (), 0), (8, 1, 0, (2,), (), 0, (), 0),
                   (2, 1, 0, (), (), 0, (), 0), (4, 1, 0, (), (1,), 0, (), 1), (5, 1, 0, ((1, 0),), (1,), 0, (), 1),
                   (6, 1, 0, ((1, 1),), (1,), 0, (), 1), (5, 1, 0, ((1, 1),), (1,), 0, (), 1), (7, 1, 0, (), (1,), 0, (), 2))

    def test_400_elements_on_the_stack(self):
        lines = ["given a", "proc p", "  set a = a - 1", "  if a", "    call p", "  end", "end", "main", "  call p", "end"]
        program = parse_program("\n".join(lines))
        machine = Machine(program, {"a": 400})
        steps = 0
        while len(machine.stack) < 400:
            machine.forward()
            steps += 1
        deep = facts(machine)
        machine.finish()
        self.assertEqual((machine.state, machine.stack), ({"a": 0}, ()))
        machine.go(steps)
        self.assertEqual(facts(machine), deep)
        machine.go(0)
        self.assertEqual(facts(machine), facts(Machine(program, {"a": 400})))
        machine = Machine(program, {"a": 401})
        for move in (machine.finish, lambda: machine.forward(10**6), lambda: machine.go(10**6)):
            with self.assertRaises(errors.TooDeep) as caught:
                move()
            self.assertEqual(caught.exception.address, program.entry("p") + 2)
            self.assertEqual(facts(machine), facts(Machine(program, {"a": 401})))

    def test_random_programs(self):
        rng = random.Random(19)
        for _ in range(250):
            program = lively_program(rng)
            values, inputs = lively_start(rng, program)
            self.check_run(rng, program, values, inputs)

    def check_run(self, rng, program, values, inputs):
        """The machine goes as the walk does, back as it came, and its tape is what was lost where it records."""
        walk = Walk(program, values, inputs)
        history, end = walk.history(250)
        recording = Analysis(program).recording
        machine = Machine(program, values, inputs)
        found = []
        for here, state, stack, read_count, outputs, lost in history:
            tape = tuple(value for address, value in walk.lost[:lost] if address in recording)
            self.assertEqual(facts(machine), (program, here, len(found), state, stack, tape, tuple(inputs), read_count,
                                              outputs, program.code[here] == ("stop",), lost, ()))
            found.append(facts(machine))
            if len(found) < len(history):
                machine.forward()
        last = facts(machine)
        if end == "end":
            with self.assertRaises(AtEnd) as caught:
                machine.forward(rng.randrange(1, 10))
            self.assertEqual(caught.exception.step, len(history) - 1)
        elif end is not None:
            with self.assertRaises(RunError) as caught:
                machine.forward()
            self.assertEqual((type(caught.exception).__name__, caught.exception.address), end)
        self.assertEqual(facts(machine), last)
        for told in found[::-1]:
            self.assertEqual(facts(machine), told)
            if machine.now > 0:
                machine.back()
        for _ in range(10):
            machine.go(rng.randrange(len(found)))
            self.assertEqual(facts(machine), found[machine.now])


class MoveTest(unittest.TestCase):
    def setUp(self):
        self.machine = Machine(COUNTDOWN, {"a": 3}, [7, 8, 9, 10])
        self.found = []
        other = self.machine.copy()
        while not other.is_done:
            self.found.append(facts(other))
            other.forward()
        self.found.append(facts(other))
        self.end = len(self.found) - 1

    def at(self, step):
        self.assertEqual(facts(self.machine), self.found[step])

    def test_forward_and_back(self):
        self.assertEqual(self.end, 17)
        for count in (0, 1, 5, self.end):
            self.assertIsNone(self.machine.forward(count))
            self.at(count)
            self.assertIsNone(self.machine.back(count=count))
            self.at(0)
        self.machine.forward()
        self.machine.forward(count=4)
        self.machine.back()
        self.at(4)

    def test_go(self):
        for step in (5, 5, 17, 0, 16, 1):
            self.assertIsNone(self.machine.go(step))
            self.at(step)
        self.machine.go(step=2)
        self.at(2)

    def test_finish(self):
        for start, limit in ((0, 17), (17, 0), (3, 14), (0, 10**30)):
            self.machine.go(start)
            self.assertIsNone(self.machine.finish(limit=limit))
            self.at(17)
        self.machine.go(0)
        self.machine.finish()
        self.at(17)

    def test_signs(self):
        same = self.machine
        self.machine >>= 5
        self.assertIs(self.machine, same)
        self.at(5)
        self.machine <<= 3
        self.assertIs(self.machine, same)
        self.at(2)
        self.machine >>= 0
        self.at(2)

    def fails(self, error, start, move, *arguments, **fields):
        self.machine.go(start)
        with self.assertRaises(error) as caught:
            move(*arguments)
        self.assertIs(type(caught.exception), error)
        for field in fields:
            self.assertEqual(getattr(caught.exception, field), fields[field])
        self.at(start)

    def shift_right(self, count):
        self.machine >>= count

    def shift_left(self, count):
        self.machine <<= count

    def test_wrong_counts(self):
        for wrong in (-1, None, True, False, 1.0, "1", [1], (), -(10**60)):
            for move in (self.machine.forward, self.machine.back, self.machine.go, self.machine.finish,
                         self.shift_right, self.shift_left):
                for step in (0, 17):
                    self.fails(InvalidCount, step, move, wrong, value=wrong)

    def test_the_end(self):
        for step in (0, 5, 16, 17):
            for more in (1, 2, 10**40):
                for move in (self.machine.forward, self.shift_right):
                    self.fails(AtEnd, step, move, 17 - step + more, step=17)
                self.fails(AtEnd, step, self.machine.go, 17 + more, step=17)

    def test_the_start(self):
        for step in (0, 5, 17):
            for more in (1, 2, 10**40):
                for move in (self.machine.back, self.shift_left):
                    self.fails(AtStart, step, move, step + more)

    def test_the_limit_of_finish(self):
        for step in (0, 5, 16):
            for limit in (0, 1, 16 - step):
                if limit < 17 - step:
                    self.fails(StepLimit, step, self.machine.finish, limit, limit=limit)

    def test_steps_that_cannot_be_performed(self):
        machine = Machine(COUNTDOWN, {"a": 3}, [7, 8])
        fresh = facts(machine)
        for move in (lambda: machine.forward(14), lambda: machine.forward(100), lambda: machine.go(14), machine.finish,
                     lambda: machine.finish(14)):
            with self.assertRaises(errors.NoInput) as caught:
                move()
            self.assertEqual(caught.exception.address, 3)
            self.assertEqual(facts(machine), fresh)
        # A step beyond the limit is not tried.
        with self.assertRaises(StepLimit):
            machine.finish(13)
        machine.forward(13)
        with self.assertRaises(StepLimit):
            machine.finish(0)
        with self.assertRaises(errors.NoInput):
            machine.forward()
        self.assertEqual((machine.now, machine.here), (13, 3))

    def test_each_error_of_a_step(self):
        for word, line in (("Inexact", "print (x + 1) / 2"), ("ZeroDivisor", "set a = quotient(1, x)"), ("NoInput", "if read"),
                           ("TooLarge", "repeat product(a, 0)")):
            lines = ["swap a x", "swap a x", line] + (["end"] if line[0] in "ir" else [])
            machine = machine_of(*lines, values={"a": 10**300})
            for move in (machine.forward, machine.go):
                with self.assertRaises(getattr(errors, word)) as caught:
                    move(3)
                self.assertEqual(caught.exception.address, 2)
                self.assertEqual(machine.now, 0)
            machine.forward(2)

    def test_the_error_of_finish_comes_after_its_count(self):
        machine = machine_of("print read", values={"a": 0})
        with self.assertRaises(InvalidCount):
            machine.finish(-1)
        with self.assertRaises(StepLimit):
            machine.finish(0)
        with self.assertRaises(errors.NoInput):
            machine.finish(1)

    def test_endless_runs(self):
        machine = machine_of("while 1", "  set a = a + 1", "end", values={"a": 0})
        with self.assertRaises(StepLimit) as caught:
            machine.finish()
        self.assertEqual((caught.exception.limit, machine.now, machine["a"]), (10000, 0, 0))
        machine.forward(9001)
        self.assertEqual(machine["a"], 3000)
        machine.back(9000)
        self.assertEqual((machine["a"], machine.tape), (0, (0,)))

    def test_results_do_not_change_the_machine(self):
        self.machine.go(9)
        self.machine.state["a"] = 55
        self.at(9)
        self.assertIsNot(self.machine.state, self.machine.state)


class EqualityTest(unittest.TestCase):
    def test_copies_are_equal_and_independent(self):
        machine = Machine(COUNTDOWN, {"a": 2}, [7, 8])
        for step in (0, 3, 9, 12):
            machine.go(step)
            copy = machine.copy()
            self.assertIs(type(copy), Machine)
            self.assertEqual(facts(copy), facts(machine))
            self.assertTrue(copy == machine)
            before = facts(machine)
            copy.go(5)
            self.assertEqual(facts(machine), before)
            machine.go(6)
            self.assertEqual(copy.now, 5)
            self.assertFalse(copy == machine)
            copy.forward()
            self.assertTrue(copy == machine)

    def test_a_copy_of_a_copy(self):
        machine = Machine(COUNTDOWN, {"a": 2}, [7, 8])
        machine.forward(4)
        copy = machine.copy().copy()
        machine.finish()
        copy.finish()
        self.assertEqual(copy, machine)
        copy.go(0)
        self.assertEqual(copy, Machine(COUNTDOWN, {"a": 2}, (7, 8)))

    def test_what_machines_differ_by(self):
        machine = Machine(COUNTDOWN, {"a": 2}, [7, 8])
        self.assertEqual(machine, Machine(parse_program("given a\nvar x\nmain\n  while a\n    set a = a - 1\n    set x = read\n"
                                                        "    print x\n  end\nend"), {"a": 2}, (7, 8)))
        self.assertNotEqual(machine, Machine(COUNTDOWN, {"a": 3}, [7, 8]))
        self.assertNotEqual(machine, Machine(COUNTDOWN, {"a": 2}, [7, 9]))
        self.assertNotEqual(machine, Machine(COUNTDOWN, {"a": 2}, [7, 8, 9]))
        self.assertNotEqual(machine, Machine(parse_program("given a\nvar x\nmain\nend"), {"a": 2}, [7, 8]))
        later = machine.copy()
        later.forward()
        self.assertNotEqual(machine, later)

    def test_the_same_configuration_after_other_steps(self):
        lines = ("while read", "end", "while read", "end")
        one = machine_of(*lines, values={"a": 0}, inputs=[1, 0, 0])
        other = machine_of(*lines, values={"a": 0}, inputs=[0, 1, 0])
        one.finish()
        other.finish()
        self.assertEqual((one.here, one.state, one.now, one.read_count), (other.here, other.state, other.now, other.read_count))
        self.assertNotEqual(one, other)
        self.assertNotEqual(one.tape, other.tape)

    def test_tapes_that_differ(self):
        one = machine_of("set a = 1", values={"a": 5})
        other = machine_of("set a = 1", values={"a": 6})
        one.finish()
        other.finish()
        self.assertEqual((one.state, one.tape, other.tape), (other.state, (5,), (6,)))
        self.assertNotEqual(one, other)

    def test_a_machine_is_equal_to_nothing_else(self):
        machine = Machine(COUNTDOWN, {"a": 2}, [7, 8])
        for other in (None, 0, COUNTDOWN, (), facts(machine), {"a": 2}, "step 0"):
            self.assertFalse(machine == other)
            self.assertTrue(machine != other)


class QuietMoveTest(unittest.TestCase):
    """Moves inside, into, out of and over quiet loops take no time, however many rounds there are."""

    lines = ("set x = 3", "repeat a", "  set x = x + 2", "  swap x b", "  swap b x", "  set b = b + x", "end", "print b")
    head = "given a\nvar b x"

    def machine(self, rounds):
        return machine_of(*self.lines, values={"a": rounds}, head=self.head)

    def state(self, machine, done, part):
        """The configuration in a round (after so many whole rounds and this many of the steps of the next one)."""
        x = 3 + 2 * done
        b = sum_of_first(done)
        here, counted, sets = 2, done, 0
        if part > 0:
            here, counted = 2 + part, done + 1
        if part > 1:
            x, sets = x + 2, 1
        if part == 3:
            x, b = b, x
        if part > 4:
            b, sets = b + x, 2
        self.assertEqual((machine.here, machine.state["x"], machine.state["b"]), (here, x, b))
        self.assertEqual(machine.stack, ((machine["a"], counted),))
        self.assertEqual(machine.now, 2 + 6 * done + part)
        self.assertEqual(machine.full_length, 1 + 2 * done + sets)
        self.assertEqual((machine.tape, machine.outputs, machine.is_done), ((), (), False))

    def test_everywhere(self):
        rng = random.Random(30)
        for rounds in (10**30, 10**35 + 987654321, 10**100 - 1):
            machine = self.machine(rounds)
            start = facts(machine)
            end = 1 + 1 + 6 * rounds + 1 + 1
            machine.finish(end)
            self.assertEqual(machine.now, end)
            last = facts(machine)
            self.assertEqual((machine["x"], machine["b"]), (3 + 2 * rounds, sum_of_first(rounds)))
            self.assertEqual((machine.outputs, machine.tape, machine.full_length), ((machine["b"],), (), 2 * rounds + 2))
            for done in (0, 1, 2, rounds // 3, rounds - 1, rng.randrange(rounds), rng.randrange(rounds)):
                for part in range(6):
                    step = 2 + 6 * done + part
                    machine.go(step)
                    self.state(machine, done, part)
                    self.check_moves(machine, step, rng, rounds)
            machine.go(end)
            self.assertEqual(facts(machine), last)
            machine.back(end)
            self.assertEqual(facts(machine), start)

    def check_moves(self, machine, step, rng, rounds):
        """From a step inside: to another one inside, to both ends, and into the loop from there."""
        here = facts(machine)
        other = rng.randrange(2, 2 + 6 * rounds)
        machine.go(other)
        self.state(machine, (other - 2) // 6, (other - 2) % 6)
        machine.go(step)
        self.assertEqual(facts(machine), here)
        machine.back(step)
        machine.forward(step)
        self.assertEqual(facts(machine), here)
        machine.finish(10**200)
        self.assertEqual(machine.now, 4 + 6 * rounds)
        machine.back(4 + 6 * rounds - step)
        self.assertEqual(facts(machine), here)

    def test_small_numbers_of_rounds_step_by_step(self):
        for rounds in (-2, 0, 1, 2, 5):
            machine = self.machine(rounds)
            found = [facts(machine)]
            while not machine.is_done:
                machine.forward()
                found.append(facts(machine))
            self.assertEqual(len(found) - 1, 4 + 6 * max(rounds, 0))
            for start in range(len(found)):
                for step in range(len(found)):
                    machine.go(start)
                    machine.go(step)
                    self.assertEqual(facts(machine), found[step])

    def test_the_turn_that_removes_the_counter_may_record(self):
        lines = ("repeat read", "  set x = a + x", "end", "set a = 0")
        machine = machine_of(*lines, values={"a": 5}, inputs=[10**40])
        machine.finish(10**50)
        self.assertEqual((machine.tape, machine.full_length), ((10**40, 5), 10**40 + 2))
        self.assertEqual(machine.now, 3 * 10**40 + 3)
        machine.back()
        self.assertEqual((machine.tape, machine.stack), ((10**40,), ()))
        machine.back()
        self.assertEqual((machine.tape, machine.stack, machine["x"]), ((), ((10**40, 10**40),), 5 * 10**40))
        machine.back(3 * 10**40)
        self.assertEqual((machine.here, machine.stack, machine["x"], machine.read_count), (1, ((10**40, 0),), 0, 1))

    def test_loops_in_a_loop(self):
        lines = ("repeat 3", "  repeat a", "    set x = x + 1", "  end", "  print x", "end")
        machine = machine_of(*lines, values={"a": 10**33})
        machine.finish(10**40)
        self.assertEqual(machine.outputs, (10**33, 2 * 10**33, 3 * 10**33))
        self.assertEqual(machine.now, 1 + 3 * (1 + 1 + 3 * 10**33 + 1 + 1 + 1) + 1)
        self.assertEqual(machine.full_length, 3 * (10**33 + 1) + 1)
        machine.back(machine.now)
        self.assertEqual(facts(machine), facts(machine_of(*lines, values={"a": 10**33})))

    def test_limits_in_the_middle(self):
        machine = self.machine(10**30)
        start = facts(machine)
        for limit in (0, 5, 10**29, 4 + 6 * 10**30 - 1):
            with self.assertRaises(StepLimit):
                machine.finish(limit)
            self.assertEqual(facts(machine), start)
        with self.assertRaises(AtEnd) as caught:
            machine.forward(10**40)
        self.assertEqual(caught.exception.step, 4 + 6 * 10**30)
        self.assertEqual(facts(machine), start)

    def test_a_step_behind_a_great_loop_that_cannot_be_performed(self):
        machine = machine_of("repeat a", "  set x = x + 1", "end", "print read", values={"a": 10**60})
        start = facts(machine)
        with self.assertRaises(errors.NoInput) as caught:
            machine.finish(10**70)
        self.assertEqual(caught.exception.address, 4)
        self.assertEqual(facts(machine), start)

    def test_copies_in_the_middle(self):
        machine = self.machine(10**30)
        machine.go(10**20)
        copy = machine.copy()
        self.assertEqual(copy, machine)
        copy.forward(10**19)
        self.assertNotEqual(copy, machine)
        copy.back(10**19)
        self.assertEqual(copy, machine)


def sum_of_first(done):
    """What b is after so many rounds: the sum of 5, 7, 9 and so on."""
    return done * done + 4 * done


if __name__ == "__main__":
    unittest.main()
