"""One run that goes through all parts of the package, with equal results wherever the document says so."""

import random
import time
import unittest

from frugaltape.analysis import Analysis
from frugaltape.console import Console
from frugaltape.debugger import Debugger
from frugaltape.editing import compared, what_if
from frugaltape.errors import RunError, StepLimit
from frugaltape.journal import Journal, recover
from frugaltape.machine import Machine
from frugaltape.papers import is_paper, is_run_paper, paper, run_paper
from frugaltape.plans import Keeper, best_steps, cheapest
from frugaltape.questions import last_true, last_write, outputs_at, writes
from frugaltape.rates import is_rate_paper, rate, rate_paper
from frugaltape.renaming import format_machine, renamed
from frugaltape.reversing import reversed_inputs, reversed_program
from frugaltape.rewriting import counted, paying, rewritten, thrifty
from frugaltape.running import execute
from frugaltape.texts import format_program, parse_program
from samples import lively_program, lively_start
from test_machine import facts

BIG = 10**33 + 7
PRIME = """\
given n a
var x y
main
  while less(x, 4)
    if read
      set y = a
    else
      set y = read
    end
    set y = 0
    print a + x
    set x = x + 1
  end
  set a = 3
  repeat n
    set y = a + y
    swap a y
    swap a y
  end
  print y
  set n = read
end"""


class Journey:
    """A run of a program that ends, with all parts of the package."""

    def __init__(self, test, program, values, inputs, limit):
        self.test = test
        self.program = program
        self.values = values
        self.inputs = inputs
        self.limit = limit
        self.machine = Machine(program, values, inputs)
        self.start = facts(self.machine)
        self.machine.finish(limit)
        self.end = facts(self.machine)
        self.steps = self.machine.now

    def go(self, rng):
        self.executed()
        self.backwards()
        self.papers()
        self.logged(rng)
        self.debugged(rng)
        self.kept(rng)
        self.rewritten(rng)
        self.renamed(rng)
        self.console()
        self.edited()
        self.test.assertEqual(facts(self.machine), self.end)

    def equal(self, one, other):
        self.test.assertEqual(one, other)

    def executed(self):
        found = execute(self.program, self.values, self.inputs, self.limit)
        self.equal(found, (self.machine.state, self.machine.outputs, self.steps))
        other = self.machine.copy()
        other.go(0)
        self.equal(facts(other), self.start)
        other.go(self.steps)
        self.equal(other, self.machine)
        self.equal(parse_program(format_program(self.program)), self.program)

    def backwards(self):
        program = reversed_program(self.program)
        inputs = reversed_inputs(self.machine)
        other = Machine(program, self.machine.state, inputs)
        other.finish(10 * self.limit)
        self.equal(other.state, self.start[3])
        self.equal((other.read_count, other.outputs), (len(inputs), ()))

    def papers(self):
        self.equal(is_paper(self.program, paper(self.program)), True)
        found = run_paper(self.machine)
        self.equal(found, (self.values, tuple(self.inputs), self.steps, self.machine.state, self.machine.tape))
        self.equal(is_run_paper(self.program, found), True)
        self.equal(is_run_paper(self.program, (*found[:2], self.steps + 1, *found[3:])), False)
        main = self.program.code[:self.program.code.index(("stop",))]
        if "call" not in [instruction[0] for instruction in main]:
            told = rate_paper(self.program)
            self.equal((is_rate_paper(self.program, told), told[0]), (True, rate(self.program)))
            (entries, steps), _, heights = told
            bound = entries * self.steps + heights[self.machine.here] - heights[0]
            self.test.assertLessEqual(steps * len(self.machine.tape), bound)

    def cuts(self, rng, count):
        return sorted(rng.randrange(self.steps + 1) for _ in range(count))

    def logged(self, rng):
        journal = Journal(Machine(self.program, self.values, self.inputs))
        pieces, now = [], 0
        for step in self.cuts(rng, 4):
            journal.advance(step - now)
            now = step
            pieces.append(journal.write())
            self.equal(recover(self.program, self.values, self.inputs, pieces), journal.snapshot())
        found = recover(self.program, self.values, self.inputs, [*pieces[:2], pieces[2][:-1], pieces[3]])
        found.finish(self.limit)
        self.equal(facts(found), self.end)

    def debugged(self, rng):
        debugger = Debugger(Machine(self.program, self.values, self.inputs))
        self.equal(debugger.resume(self.limit), ("end", self.steps))
        self.equal(facts(debugger.snapshot()), self.end)
        step = rng.randrange(self.steps + 1)
        debugger.jump(step)
        self.equal(debugger.snapshot().outputs, outputs_at(self.machine, step))
        self.equal(debugger.attempt(lambda one: one.reverse(self.limit)), ("start", 0))
        self.equal(debugger.snapshot().now, step)
        debugger.undo()
        for name in self.program.names:
            found = last_write(self.machine, name)
            debugger.watch(None)
            if found is not None:
                debugger.jump(found[0])
                self.equal(debugger.snapshot().here, found[1])
                debugger.undo()
        self.equal(facts(debugger.snapshot()), self.end)

    def kept(self, rng):
        queries = sorted(set(self.cuts(rng, 6)))
        _, steps = best_steps(queries, 3)
        keeper = Keeper(Machine(self.program, self.values, self.inputs), 5)
        for step in steps:
            keeper.visit(step)
            keeper.keep()
        spent = keeper.spent
        self.equal(keeper.kept, tuple(steps))
        for step in [*queries[::-1], self.steps]:
            cost, _ = cheapest(keeper.snapshot().now, step, steps, 5)
            self.equal(keeper.visit(step), cost)
            spent += cost
            self.equal(keeper.snapshot().outputs, outputs_at(self.machine, step))
        self.equal((keeper.spent, facts(keeper.snapshot())), (spent, self.end))

    def rewritten(self, rng):
        program = thrifty(self.program)
        other = Machine(program, self.values, self.inputs)
        other.finish(self.limit)
        self.equal((other.state, other.outputs, other.read_count), (self.machine.state, self.machine.outputs, self.machine.read_count))
        self.test.assertLessEqual(len(other.tape), len(self.machine.tape))
        self.equal(other.full_length, self.machine.full_length)
        self.equal(paying(program), ())
        steps = []
        while rewritten(self.program, steps) != program:
            steps.append(("sink", paying(rewritten(self.program, steps))[0]))

    def renamed(self, rng):
        new = dict(zip(self.program.names, rng.sample(["k", "l", *self.program.names], len(self.program.names))))
        other = Machine(renamed(self.program, new), {new[name]: value for name, value in self.values.items()}, self.inputs)
        other.finish(self.limit)
        self.equal(other.state, {new[name]: value for name, value in self.machine.state.items()})
        self.equal((other.tape, other.outputs, other.now), (self.machine.tape, self.machine.outputs, self.steps))
        for name in self.program.names:
            self.equal(last_write(other, new[name]), last_write(self.machine, name))
            self.equal(list(writes(other, new[name], 50)), list(writes(self.machine, name, 50)))
            self.equal(last_true(other, ("sum", 0, ((1, new[name]),), 1), 50), last_true(self.machine, ("sum", 0, ((1, name),), 1), 50))
        self.equal(Analysis(other.program).recording, Analysis(self.program).recording)

    def console(self):
        console = Console()
        values, inputs = [" ".join(map(str, numbers)) for numbers in (self.values.values(), self.inputs)]
        console.run(f"load {format_program(self.program).replace(chr(10), '|')} ; {values} ; {inputs}")
        self.equal(console.run(f"go {self.steps}"), format_machine(self.machine))
        self.equal(console.run("tape"), " ".join(map(str, self.machine.tape)) or "-")

    def edited(self):
        name = self.program.names[-1]
        value = self.start[3][name]
        found = what_if(self.machine, 0, name, value, self.limit)
        self.equal(compared(found, self.machine), ())
        self.equal((found.tape, found.outputs, found.now), (self.machine.tape, self.machine.outputs, self.steps + 1))
        found.go(0)
        self.equal(facts(found), self.start)


class EverythingTest(unittest.TestCase):
    def test_a_loop_of_thirty_digit_rounds(self):
        start = time.process_time()
        rng = random.Random(50)
        program = parse_program(PRIME)
        inputs = [1, 0, 6, 5, 0, 9, 44, 7, 8]
        journey = Journey(self, program, {"n": BIG, "a": 5}, inputs, BIG * BIG)
        self.assertEqual(journey.machine.outputs, (5, 6, 7, 8, 3 * BIG))
        for _ in range(5):
            journey.go(rng)
        other = counted(program, 1)
        self.assertEqual(execute(other, {"n": BIG, "a": 5}, inputs, BIG * BIG), execute(program, {"n": BIG, "a": 5}, inputs, BIG * BIG))
        self.assertEqual(paying(program), (7,))
        self.assertLess(time.process_time() - start, 30)

    def test_backwards_through_a_reversed_quiet_loop(self):
        text = "given n\nvar a x\nmain\n  set a = 3\n  repeat n\n    set x = a + x\n    swap a x\n    swap a x\n  end\n  print x\nend"
        program = parse_program(text)
        journey = Journey(self, program, {"n": BIG}, [4], BIG * BIG)
        self.assertEqual(journey.machine.outputs, (3 * BIG,))
        journey.go(random.Random(51))

    def test_random_runs(self):
        rng = random.Random(52)
        made = 0
        while made < 60:
            program = lively_program(rng)
            values, inputs = lively_start(rng, program)
            try:
                journey = Journey(self, program, values, inputs, 400)
            except (RunError, StepLimit):
                continue
            journey.go(rng)
            made += 1


if __name__ == "__main__":
    unittest.main()
