import random
import time
import unittest

from frugaltape.errors import (
    AtEnd, Edited, InvalidCount, InvalidPaper, InvalidProgram, NotDone, RunError, StepLimit, UnknownRow,
)
from frugaltape.machine import Machine
from frugaltape.papers import is_run_paper, paper, row_run, run_paper
from frugaltape.paths import free_run
from frugaltape.programs import Program
from frugaltape.spaces import Space
from frugaltape.texts import parse_program
from oracles import reduced
from paper_oracle import made_moves
from samples import lively_program, lively_start, text_of
from test_machine import facts, machine_of
from test_papers import EXAMPLE, HAND, WIDE

COUNTDOWN = parse_program("given a\nvar x\nmain\n  while a\n    set a = a - 1\n    set x = read\n  end\nend")


class RowRunTest(unittest.TestCase):
    def check(self, program, candidate, row):
        """The free run leads to the address and the entries of the row."""
        address, vector, _ = candidate[1][row]
        start, choices, steps = row_run(program, candidate, row, 10**6)
        self.assertEqual(set(start), set(program.given))
        self.assertIs(type(choices), tuple)
        here, state, stack, used = free_run(program, start, choices, steps)
        k = len(program.names)
        self.assertEqual((here, state, used), (address, reduced((*vector[:k], vector[-1])), len(choices)))
        opened = []
        for item in stack[::-1]:
            if isinstance(item, int):
                break
            opened.append(item)
        self.assertEqual(len(opened), len(vector) - k - 1 if len(vector) > k + 1 else 0)
        for (n, m), entry in zip(opened[::-1], vector[k:-1]):
            self.assertEqual(n * vector[-1], entry * m)

    def test_by_hand(self):
        self.assertEqual(row_run(EXAMPLE, HAND, 0), ({"a": 0}, (), 0))
        self.assertEqual(row_run(EXAMPLE, HAND, 1), ({"a": 1}, (), 0))
        self.assertEqual(row_run(EXAMPLE, HAND, 3), ({"a": 1}, (), 1))
        self.assertEqual(row_run(EXAMPLE, HAND, 5, 2), ({"a": 0}, (7,), 2))
        self.assertEqual(row_run(program=EXAMPLE, candidate=HAND, row=6, limit=2), ({"a": 1}, (-1,), 2))

    def test_all_rows(self):
        rng = random.Random(4)
        programs = [WIDE] + [lively_program(rng) for _ in range(25)]
        for program in programs:
            made = paper(program)
            for row in rng.sample(range(len(made[1])), min(8, len(made[1]))):
                self.check(program, made, row)

    def test_calls(self):
        program = parse_program("\n".join([
            "var x", "proc p", "  set x = x + 1", "  if read", "    call p", "    set x = 2 * x", "  end", "end", "main", "  repeat 5",
            "    call p", "    call p", "  end", "end"]))
        made = paper(program)
        for row in range(len(made[1])):
            self.check(program, made, row)
        origins = {origin[0] for _, _, origin in made[1]}
        self.assertEqual(origins, {"start", "step", "enter", "call"})

    def test_the_limit(self):
        made = paper(WIDE)
        for row in range(len(made[1])):
            _, _, steps = row_run(WIDE, made, row)
            row_run(WIDE, made, row, steps)
            if steps > 0:
                with self.assertRaises(StepLimit) as caught:
                    row_run(WIDE, made, row, steps - 1)
                self.assertEqual(caught.exception.limit, steps - 1)

    def doubling(self, depth):
        """A program and a paper of it with a run that doubles its length with each row."""
        body = ("if", ("read",), (("call", "p"), ("call", "p")), ())
        program = Program((), ("x",), (("p", (body,)),), (("call", "p"),))
        matrices, vectors, _, decisions = paper(program)
        matrices = list(matrices)
        calls = [number for number, row in enumerate(matrices) if row[0] == 3]
        unit = (1, 0, 0, 1)
        last = next(number for number, row in enumerate(matrices) if program.code[row[0]] == ("return",))
        for _ in range(depth):
            number = len(matrices)
            matrices += [(4, unit, ("call", calls[0], last)), (5, unit, ("call", number, last)), (7, unit, ("step", number + 1, None))]
            last = number + 2
        vectors = (*vectors, (1, (0, 1), ("call", 0, last)))
        return program, tuple(matrices), vectors, decisions

    def test_runs_that_are_too_long_to_follow(self):
        program, matrices, vectors, decisions = self.doubling(60)
        made = (matrices, vectors, made_moves(program, matrices, vectors), decisions)
        start = time.process_time()
        row = len(vectors) - 1
        for limit in (0, 2000, 10**9):
            with self.assertRaises(StepLimit) as caught:
                row_run(program, made, row, limit)
            self.assertEqual(caught.exception.limit, limit)
        with self.assertRaises(StepLimit) as caught:
            row_run(program, made, row)
        self.assertEqual(caught.exception.limit, 2000)
        self.assertLess(time.process_time() - start, 20)
        program, matrices, vectors, decisions = self.doubling(7)
        made = (matrices, vectors, made_moves(program, matrices, vectors), decisions)
        self.check(program, made, len(vectors) - 1)
        self.assertGreater(row_run(program, made, len(vectors) - 1)[2], 2**7)

    def test_a_long_chain_of_rows(self):
        program = parse_program(text_of("while read", "  set x = x + 1", "end", head="var x"))
        matrices, vectors, moves, decisions = paper(program)
        rows = list(vectors)
        x, number = 0, next(number for number, row in enumerate(rows) if row[:2] == (1, (0, 1)))
        for _ in range(250):
            x += 1
            rows += [(2, (x - 1, 1), ("step", number, 1)), (3, (x, 1), ("step", len(rows), None)),
                     (1, (x, 1), ("step", len(rows) + 1, None))]
            number = len(rows) - 1
        rows = tuple(rows)
        made = (matrices, rows, made_moves(program, matrices, rows), decisions)
        self.assertEqual(row_run(program, made, number), ({}, (1,) * 250, 751))
        self.check(program, made, number)

    def test_errors_in_their_order(self):
        with self.assertRaises(InvalidProgram) as caught:
            row_run(None, None, None, None)
        self.assertIsNone(caught.exception.part)
        for wrong in (None, (), HAND[:3], paper(WIDE), list(HAND)):
            with self.assertRaises(InvalidPaper):
                row_run(EXAMPLE, wrong, None, None)
        for wrong in (-1, 7, 10**30, None, True, False, "0", 0.0, (0,), [0]):
            with self.assertRaises(UnknownRow) as caught:
                row_run(EXAMPLE, HAND, wrong, None)
            self.assertIs(caught.exception.row, wrong)
        for wrong in (-1, None, True, "1", 1.0, [1]):
            with self.assertRaises(InvalidCount) as caught:
                row_run(EXAMPLE, HAND, 6, wrong)
            self.assertIs(caught.exception.value, wrong)
        with self.assertRaises(StepLimit):
            row_run(EXAMPLE, HAND, 6, 1)

    def test_rows_of_matrices_are_no_rows_here(self):
        program = parse_program("var x\nproc p\n  set x = 1\n  set x = 2\n  set x = 3\nend\nmain\nend")
        made = paper(program)
        self.assertGreater(len(made[0]), len(made[1]))
        with self.assertRaises(UnknownRow):
            row_run(program, made, len(made[1]))


class RunPaperTest(unittest.TestCase):
    def test_example_of_the_interface(self):
        machine = Machine(EXAMPLE, {"a": 5}, [7])
        machine.finish()
        self.assertEqual(run_paper(machine), ({"a": 5}, (7,), 2, {"a": 7, "x": 11}, ()))
        self.assertIs(is_run_paper(EXAMPLE, run_paper(machine=machine)), True)
        self.assertEqual(machine.now, 2)

    def test_unread_inputs_belong_to_it(self):
        machine = Machine(EXAMPLE, {"a": 5}, [7, 8, 9])
        machine.finish()
        made = run_paper(machine)
        self.assertEqual(made[1], (7, 8, 9))
        self.assertIs(is_run_paper(program=EXAMPLE, candidate=made), True)
        self.assertIs(is_run_paper(EXAMPLE, ({"a": 5}, (7,), 2, {"a": 7, "x": 11}, ())), True)

    def test_the_machine_stays_as_it_is(self):
        machine = Machine(COUNTDOWN, {"a": 3}, [4, 5, 6])
        machine.finish()
        before = facts(machine)
        made = run_paper(machine)
        made[0]["a"] = made[3]["a"] = 99
        self.assertEqual(facts(machine), before)
        self.assertEqual(run_paper(machine)[0], {"a": 3})

    def test_machines_that_are_not_done(self):
        machine = Machine(EXAMPLE, {"a": 5}, [7])
        for now in (0, 1):
            with self.assertRaises(NotDone) as caught:
                run_paper(machine)
            self.assertEqual(caught.exception.step, now)
            machine.forward()

    def test_machines_with_edits(self):
        machine = machine_of("print x", "print x", values={"a": 5})
        machine.forward()
        machine.edit("a", 6)
        machine.edit("a", 7)
        with self.assertRaises(NotDone) as caught:
            run_paper(machine)
        self.assertEqual(caught.exception.step, 3)
        machine.finish()
        with self.assertRaises(Edited) as caught:
            run_paper(machine)
        self.assertEqual(caught.exception.step, 1)
        machine.go(1)
        machine.finish()
        self.assertIs(is_run_paper(machine.program, run_paper(machine)), True)

    def test_random_runs(self):
        rng = random.Random(25)
        made = 0
        while made < 50:
            program = lively_program(rng)
            machine = Machine(program, *lively_start(rng, program))
            try:
                machine.finish(500)
            except (RunError, StepLimit):
                continue
            made += 1
            told = run_paper(machine)
            self.assertIs(is_run_paper(program, told), True)
            self.check_changes(rng, program, told)

    def check_changes(self, rng, program, told):
        values, inputs, steps, end, tape = told
        name = rng.choice(program.names)
        self.refuse(program, (values, inputs, steps + 1, end, tape), (values, inputs, steps, end, (*tape, 0)),
                    (values, inputs, steps, end | {name: end[name] + 1}, tape), (values, inputs, 10**50, end, tape))
        if steps > 0:
            self.refuse(program, (values, inputs, steps - 1, end, tape))
        if tape:
            at = rng.randrange(len(tape))
            other = tuple(entry + (place == at) for place, entry in enumerate(tape))
            self.refuse(program, (values, inputs, steps, end, other), (values, inputs, steps, end, tape[1:]))

    def refuse(self, program, *candidates):
        for candidate in candidates:
            self.assertIs(is_run_paper(program, candidate), False)

    def test_changed_starts(self):
        machine = Machine(COUNTDOWN, {"a": 2}, [4, 5])
        machine.finish()
        values, inputs, steps, end, tape = run_paper(machine)
        self.assertIs(is_run_paper(COUNTDOWN, (values, (4, 5, 6), steps, end, tape)), True)
        self.refuse(COUNTDOWN, ({"a": 3}, inputs, steps, end, tape), (values, (3, 5), steps, end, tape), (values, (4,), steps, end, tape),
                    (values, (), steps, end, tape))

    def test_objects_that_have_not_the_form(self):
        good = ({"a": 1}, (1,), 2, {"a": 1, "x": 3}, ())
        self.assertIs(is_run_paper(EXAMPLE, good), True)
        self.refuse(EXAMPLE, None, 1, "paper", (), good[:4], (*good, ()), list(good), {}, EXAMPLE, Space(2))
        wrong = (
            (None, [("a", 1)], {}, {"a": True}, {"a": 1, "x": 0}, {"x": 1}, {"a": None}, ("a",), {1: 1}),
            (None, [1], {}, (True,), (None,), ("1",), 1, "1"),
            (None, True, "2", 2.5, (2,), -2, 0, 1, 3),
            (None, {}, {"a": 1}, {"a": 1, "x": 3, "y": 0}, {"a": True, "x": 3}, {"a": 1, "x": "3"}, (1, 3), {"a": 1, "x": 4}),
            (None, [], {}, (0,), (None,), 0, ""),
        )
        for at, others in enumerate(wrong):
            for other in others:
                self.refuse(EXAMPLE, good[:at] + (other,) + good[at + 1:])

    def test_true_is_no_1(self):
        program = parse_program("given a\nmain\n  if read\n  end\n  set a = 1\nend")
        machine = Machine(program, {"a": 1}, [1])
        machine.finish()
        values, inputs, steps, end, tape = run_paper(machine)
        self.assertEqual((tape, end), ((1, 1), {"a": 1}))
        self.refuse(program, ({"a": True}, inputs, steps, end, tape), (values, (True,), steps, end, tape),
                    (values, inputs, steps, {"a": True}, tape), (values, inputs, steps, end, (True, 1)), (values, inputs, steps, end, [1, 1]))

    def test_runs_with_errors(self):
        self.refuse(EXAMPLE, ({"a": 5}, (), 2, {"a": 5, "x": 11}, ()), ({"a": 5}, (), 1, {"a": 5, "x": 11}, ()))
        program = parse_program("var x\nproc p\n  call p\nend\nmain\n  call p\nend")
        self.refuse(program, ({}, (), 10**9, {"x": 0}, ()), ({}, (), 400, {"x": 0}, ()))
        program = parse_program("given a\nmain\n  print (a) / 2\nend")
        self.assertIs(is_run_paper(program, ({"a": 4}, (), 1, {"a": 4}, ())), True)
        self.refuse(program, ({"a": 5}, (), 1, {"a": 5}, ()))

    def test_great_quiet_loops(self):
        lines = ("repeat a", "  set x = x + 3", "end", "repeat read", "  swap a x", "  swap x a", "end", "set x = 0")
        for rounds in (10**30, 10**99 + 7):
            machine = machine_of(*lines, values={"a": rounds}, inputs=[rounds + 5])
            machine.finish(10**120)
            made = run_paper(machine)
            steps = 2 + 3 * rounds + 2 + 4 * (rounds + 5) + 1
            self.assertEqual(made, ({"a": rounds}, (rounds + 5,), steps, {"a": rounds, "x": 0}, (rounds + 5, 3 * rounds)))
            self.assertIs(is_run_paper(machine.program, made), True)
            self.check_changes(random.Random(1), machine.program, made)
            values, inputs, _, end, tape = made
            for other in (steps // 2, 1 + 3 * rounds, steps + 10**60, 5):
                self.refuse(machine.program, (values, inputs, other, end, tape))

    def test_endless_runs_are_not_followed_far(self):
        program = parse_program("given a\nmain\n  while 1\n    set a = a + 1\n  end\nend")
        start = time.process_time()
        self.refuse(program, ({"a": 0}, (), 10**80, {"a": 0}, ()), ({"a": 0}, (), 10, {"a": 3}, (0, 1, 1, 1)))
        self.assertLess(time.process_time() - start, 20)

    def count_down(self, start, *lines):
        """A machine at the end of 3 steps for each number from `start` down to 1, after some lines."""
        machine = machine_of(*lines, "while a", "  set a = a - 1", "end", values={"a": start})
        machine.finish(10**60)
        return machine

    def test_the_bound_of_100000_steps(self):
        for lines, quiet_steps, counted in (((), 0, 0), (("print 1",), 1, 1), (("print 1", "print 2"), 2, 2)):
            for start in (33332, 33333):
                machine = self.count_down(start, *lines)
                steps = 2 + 3 * start + quiet_steps
                self.assertEqual(machine.now, steps)
                self.assertIs(is_run_paper(machine.program, run_paper(machine)), 2 + 3 * start + counted <= 100000)

    def test_a_quiet_loop_counts_as_two(self):
        loop = ("repeat {}", "  set x = x + 1", "end")
        for rounds in (-5, 0, 1, 10**40):
            lines = [line.format(rounds) for line in loop]
            for more, expected in ((0, True), (1, False)):
                machine = self.count_down(33332, *lines, *["print 1"] * more)
                self.assertEqual(machine.now, 2 + 3 * 33332 + 2 + 3 * max(rounds, 0) + more)
                # 99998 steps, 2 for the quiet loop, and those that print.
                self.assertIs(is_run_paper(machine.program, run_paper(machine)), expected)

    def test_programs(self):
        for wrong in (None, "main\nend", 1, Program):
            with self.assertRaises(InvalidProgram):
                is_run_paper(wrong, None)

    def test_a_run_that_ends_at_once(self):
        program = parse_program("given a\nmain\nend")
        self.assertIs(is_run_paper(program, ({"a": 3}, (5,), 0, {"a": 3}, ())), True)
        self.refuse(program, ({"a": 3}, (5,), 1, {"a": 3}, ()), ({"a": 3}, (5,), -1, {"a": 3}, ()), ({"a": 3}, (), False, {"a": 3}, ()))
        with self.assertRaises(AtEnd):
            Machine(program, {"a": 3}).forward()


if __name__ == "__main__":
    unittest.main()
