import random
import unittest
from fractions import Fraction

from frugaltape.analysis import Analysis
from frugaltape.errors import InvalidProgram, RunError
from frugaltape.machine import Machine
from frugaltape.paths import free_run
from frugaltape.rates import edges, is_rate_paper, rate, rate_paper
from frugaltape.texts import parse_program
from samples import lively_program, lively_start, text_of
from test_machine import EXAMPLE

CALLS = ("if a", "  while x", "    repeat 2", "      call p", "    end", "  end", "end")
WITH_CALL = parse_program(text_of(*CALLS, head="given a\nvar x\nproc p\nend"))
LOOPS = ("while read", "  set x = read", "  repeat read", "    set x = read", "    set x = 0", "  end", "  set x = x + 1", "end",
         "while x", "  print 1", "end")


def program_of(*lines, head="given a\nvar x"):
    return parse_program(text_of(*lines, head=head))


def quotients(found):
    """The quotients of entries and steps of all cycles without a node twice."""
    following = {}
    for one, other, entries in found:
        following.setdefault(one, []).append((other, entries))
    seen = set()

    def walk(start, node, path, total):
        for other, entries in following.get(node, ()):
            if other == start:
                seen.add(Fraction(total + entries, len(path)))
            elif other > start and other not in path:
                walk(start, other, [*path, other], total + entries)
    for start in following:
        walk(start, start, [start], 0)
    return seen


def accepts(found, size, candidate):
    """Whether a candidate of the right kinds is a rate paper, by the words of the document."""
    (e, s), cycle, heights = candidate
    table = {(one, other): entries for one, other, entries in found}
    if e < 0 or s < 1 or Fraction(e, s).denominator != s or len(heights) != size:
        return False
    if cycle:
        pairs = [(cycle[at - 1], cycle[at]) for at in range(len(cycle))]
        if len(set(cycle)) < len(cycle) or not set(pairs) <= set(table):
            return False
        if s * sum(table[pair] for pair in pairs) != e * len(cycle):
            return False
    elif (e, s) != (0, 1):
        return False
    return all(heights[other] - heights[one] >= s * entries - e for one, other, entries in found)


class EdgesTest(unittest.TestCase):
    def test_by_hand(self):
        self.assertEqual(edges(EXAMPLE), ((0, 1, 0), (1, 2, 0)))
        self.assertEqual(edges(program=program_of()), ())
        self.assertEqual(edges(program_of("if read", "  swap a x", "else", "  print 1", "end")),
                         ((0, 1, 0), (0, 3, 0), (1, 2, 0), (2, 5, 1), (3, 4, 0), (4, 5, 1)))
        self.assertEqual(edges(program_of("repeat read", "  set x = read", "end", "set x = 0")),
                         ((0, 1, 0), (1, 2, 0), (1, 4, 1), (2, 3, 1), (3, 1, 0), (4, 5, 1)))
        # A turn that writes nothing when it ends, and a join whose way is known.
        self.assertEqual(edges(program_of("repeat a", "  swap a x", "  swap a x", "end")),
                         ((0, 1, 0), (1, 2, 0), (1, 5, 0), (2, 3, 0), (3, 4, 0), (4, 1, 0)))
        self.assertEqual(edges(program_of("while a", "end")), ((0, 1, 1), (1, 2, 0), (1, 3, 0), (2, 1, 1)))

    def test_of_main_only(self):
        program = parse_program("given a\nvar x\nproc p\n  while read\n    set x = read\n    call p\n  end\nend\nmain\n  set x = 2\nend")
        self.assertEqual(edges(program), ((0, 1, 0),))
        self.assertEqual(len(rate_paper(program)[2]), 2)

    def test_every_step_of_free_runs(self):
        rng = random.Random(43)
        seen_all = 0
        for _ in range(60):
            program = lively_program(rng, procedures=0)
            found = edges(program)
            self.assertEqual(found, tuple(sorted(found)))
            table = {(one, other): entries for one, other, entries in found}
            self.assertEqual(len(table), len(found))
            seen = set()
            for _ in range(30):
                choices, address = [], 0
                for steps in range(1, 40):
                    if program.code[address] == ("stop",):
                        break
                    choices.append(rng.randrange(2))
                    after, _, _, used = free_run(program, {name: 1 for name in program.given}, choices, steps)
                    del choices[used:]
                    seen.add((address, after))
                    address = after
            self.assertLessEqual(seen, set(table))
            seen_all += seen == set(table)
            recording = Analysis(program).recording
            for (one, other), entries in table.items():
                turning = program.code[one][0] == "turn" and other == one + 1
                self.assertEqual(entries, 1 if one in recording and not turning else 0)
        self.assertGreater(seen_all, 30)


class RateTest(unittest.TestCase):
    def test_by_hand(self):
        self.assertEqual(rate(EXAMPLE), (0, 1))
        self.assertEqual(rate(program=program_of("set x = read", "set x = read", "if read", "end")), (0, 1))
        # The test and the go back, which records.
        self.assertEqual(rate(program_of("while a", "end")), (1, 2))
        self.assertEqual(rate(program_of("repeat a", "  set x = x + 1", "end")), (0, 1))
        self.assertEqual(rate(program_of("while a", "  set x = read", "  print 1", "  print 2", "end")), (2, 5))
        self.assertEqual(rate(program_of("while a", "  set x = read", "  set x = read", "  print 2", "  print 3", "end")), (1, 2))
        # The best way round, of several.
        self.assertEqual(rate(program_of("while a", "  if read", "    set x = read", "  else", "    print 1", "    print 1", "  end", "end")), (3, 5))
        self.assertEqual(rate(program_of("while a", "  print 1", "end", "repeat a", "  set x = read", "end", "while read", "  print 1",
                                         "  print 1", "end")), (1, 3))

    def test_loops_in_loops(self):
        self.assertEqual(rate(program_of(*LOOPS)), (1, 2))
        self.assertEqual(max(quotients(edges(program_of(*LOOPS)))), Fraction(1, 2))

    def test_all_cycles(self):
        rng = random.Random(44)
        rates = {}
        for _ in range(250):
            program = lively_program(rng, procedures=0)
            found = max(quotients(edges(program)), default=Fraction(0))
            self.assertEqual(rate(program), (found.numerator, found.denominator))
            rates[found] = rates.get(found, 0) + 1
        self.assertGreater(len(rates), 12)

    def test_a_long_program(self):
        program = program_of(*["while read", "  if a", "    set x = read", "  end", "end"] * 17)
        self.assertEqual(len(program.code), 120)
        self.assertEqual(rate(program), rate(program_of("while read", "  if a", "    set x = read", "  end", "end")))
        self.assertIs(is_rate_paper(program, rate_paper(program)), True)


class RatePaperTest(unittest.TestCase):
    def test_kinds(self):
        for program in (EXAMPLE, program_of(), program_of(*LOOPS)):
            paper = rate_paper(program=program)
            self.assertIs(type(paper), tuple)
            told, cycle, heights = paper
            self.assertEqual((told, len(heights)), (rate(program), len(program.code)))
            self.assertEqual({type(part) for part in paper}, {tuple})
            self.assertEqual({type(number) for number in (*told, *cycle, *heights)}, {int})
            self.assertIs(is_rate_paper(program=program, candidate=paper), True)

    def test_random_programs(self):
        rng = random.Random(45)
        for _ in range(250):
            program = lively_program(rng, procedures=0)
            paper = rate_paper(program)
            self.assertIs(is_rate_paper(program, paper), True)
            self.assertIs(accepts(edges(program), len(program.code), paper), True)
            self.check_runs(rng, program, paper)

    def check_runs(self, rng, program, paper):
        """No run records more than the paper shows, not even for a while."""
        (e, s), _, heights = paper
        for _ in range(3):
            machine = Machine(program, *lively_start(rng, program))
            for _ in range(150):
                self.assertLessEqual(s * len(machine.tape), e * machine.now + heights[machine.here] - heights[0])
                try:
                    machine.forward()
                except (RunError, IndexError):
                    break

    def test_a_run_that_records_at_the_rate(self):
        program = program_of("while a", "  set x = read", "  print 1", "  print 2", "end")
        machine = Machine(program, {"a": 1}, [5] * 1000)
        machine.forward(5001)
        self.assertEqual(len(machine.tape), 2001)
        (e, s), _, heights = rate_paper(program)
        self.assertLessEqual(s * 2001, e * 5001 + heights[1] - heights[0])

    def test_other_papers(self):
        """Papers that are wrong in one number are none, unless they still show what they must."""
        rng = random.Random(46)
        counts = {True: 0, False: 0}
        for made in range(25):
            program = lively_program(rng, procedures=0) if made else program_of(*LOOPS)
            found, size = edges(program), len(program.code)
            told, cycle, heights = rate_paper(program)
            candidates = [((told[0] + more, told[1] + less), cycle, heights) for more, less in ((1, 0), (-1, 0), (0, 1), (0, -1), (1, 1))]
            candidates += [((2 * told[0], 2 * told[1]), cycle, heights), ((-told[0], -told[1]), cycle, heights), ((0, 0), cycle, heights)]
            candidates += [((0, 1), (), heights), (told, (), heights), ((0, 2), (), heights), ((1, 1), (), heights)]
            for at in range(len(cycle) + 1):
                for other in (*range(-1, 2), rng.randrange(size), size, size + 1):
                    candidates += [(told, (*cycle[:at], other, *cycle[at + 1:]), heights), (told, (*cycle[:at], other, *cycle[at:]), heights)]
                candidates += [(told, cycle[at:] + cycle[:at], heights), (told, cycle[:at], heights), (told, cycle[at:], heights)]
            twice = tuple(2 * height for height in heights)
            candidates += [((2 * told[0], 2 * told[1]), cycle, twice), (told, cycle, twice), ((0, 2), cycle, twice)]
            candidates += [(told, cycle[::-1], heights), (told, cycle + cycle, heights)]
            for at in range(size):
                for more in (-1, 1, -3, 10**40):
                    candidates.append((told, cycle, (*heights[:at], heights[at] + more, *heights[at + 1:])))
            candidates += [(told, cycle, tuple(height + more for height in heights)) for more in (1, -10**40)]
            candidates += [(told, cycle, heights[:-1]), (told, cycle, (*heights, 0)), (told, cycle, ())]
            for candidate in candidates:
                expected = accepts(found, size, candidate)
                self.assertIs(is_rate_paper(program, candidate), expected, candidate)
                counts[expected] += 1
                if expected:
                    self.assertEqual(candidate[0], rate(program))
        self.assertGreater(min(counts.values()), 300)

    def test_other_objects(self):
        program = program_of("while a", "  set x = read", "end")
        told, cycle, heights = rate_paper(program)
        self.assertEqual((told, set(cycle), len(heights)), ((2, 3), {1, 2, 3}, 5))
        for wrong in (None, 0, "paper", {}, [], (), (told,), (told, cycle), (told, cycle, heights, ()), [told, cycle, heights],
                      (list(told), cycle, heights), (told, list(cycle), heights), (told, cycle, list(heights)), (told, None, heights),
                      (None, cycle, heights), (told, cycle, None), (told[:1], cycle, heights), ((*told, 1), cycle, heights),
                      (Fraction(2, 3), cycle, heights), ((2.0, 3), cycle, heights), (told, tuple(map(float, cycle)), heights),
                      (told, cycle, tuple(map(float, heights))), (told, cycle, dict(enumerate(heights))), (told, {1, 2, 3}, heights),
                      (("2", "3"), cycle, heights), (told, ([1], [2], [3]), heights), (told, ({}, 2, 3), heights), {"rate": told}):
            self.assertIs(is_rate_paper(program, wrong), False)
        # True and False are no integers.
        at = cycle.index(1)
        self.assertIs(is_rate_paper(program, (told, (*cycle[:at], True, *cycle[at + 1:]), heights)), False)
        for value in (0, 1):
            shifted = tuple(height - heights[2] + value for height in heights)
            self.assertIs(is_rate_paper(program, (told, cycle, shifted)), True)
            self.assertIs(is_rate_paper(program, (told, cycle, (*shifted[:2], bool(value), *shifted[3:]))), False)
        quiet = program_of("repeat a", "end")
        for told, expected in (((0, 1), True), ((False, 1), False), ((0, True), False), ([0, 1], False)):
            self.assertIs(is_rate_paper(quiet, (told, (), (0,) * 4)), expected)
            self.assertIs(is_rate_paper(quiet, (told, (1, 2), (0,) * 4)), expected)
        self.assertIs(is_rate_paper(quiet, ((0, 1), (1,), (0,) * 4)), False)
        for cycle in ((), (1, 2)):
            self.assertIs(is_rate_paper(quiet, ((0, 2), cycle, (0,) * 4)), False)

    def test_a_rate_that_is_too_great(self):
        # The heights would show it, but no cycle does.
        program = program_of("while a", "  print 1", "end")
        self.assertEqual(rate(program), (1, 3))
        for told in ((1, 2), (1, 1), (2, 3)):
            heights = [0] * len(program.code)
            for _ in range(20):
                for one, other, entries in edges(program):
                    heights[other] = max(heights[other], heights[one] + told[1] * entries - told[0])
            for cycle in ((), (1, 2, 3), (2, 3, 1), (0,), (0, 1)):
                self.assertIs(is_rate_paper(program, (told, cycle, tuple(heights))), False)

    def test_wrong_programs(self):
        for call in (edges, rate, rate_paper, lambda program: is_rate_paper(program, None)):
            for wrong in (None, 1, "main\nend", EXAMPLE.code):
                with self.assertRaises(InvalidProgram) as caught:
                    call(wrong)
                self.assertIsNone(caught.exception.part)
            for program in (WITH_CALL, parse_program("var x\nproc p\nend\nmain\n  call p\nend"),
                            parse_program("var x\nproc p\nend\nmain\n  if x\n  else\n    call p\n  end\nend")):
                with self.assertRaises(InvalidProgram) as caught:
                    call(program)
                self.assertEqual(caught.exception.part, "calls")


if __name__ == "__main__":
    unittest.main()
