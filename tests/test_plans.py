import random
import time
import unittest
from itertools import combinations

from frugaltape.errors import (
    AtEnd, Edited, InvalidCount, InvalidStep, NoInput, StepLimit, UnknownStep,
)
from frugaltape.machine import Machine
from frugaltape.plans import Keeper, best_steps, cheapest
from samples import lively_program, lively_start
from test_machine import facts, machine_of

BIG = 10**30
WRONG_STEPS = (-1, True, False, None, "1", 1.0, [1], -BIG)
WRONG_COUNTS = (-1, True, False, None, "1", 1.0, [1], -BIG)


class CheapestTest(unittest.TestCase):
    def test_examples(self):
        self.assertEqual(cheapest(10, 3, [0, 4], 2), (3, 4))
        self.assertEqual(cheapest(present=3, target=10, kept=[4, 11], jump=2), (3, 11))
        self.assertEqual(cheapest(10, 3, [], 2), (7, None))
        self.assertEqual(cheapest(5, 5, [5], 0), (0, None))
        self.assertEqual(cheapest(5, 9, [9], 0), (0, 9))
        self.assertIs(type(cheapest(1, 2, [], 0)), tuple)

    def test_equal_costs(self):
        # The way without a jump is the first one, then that by the smallest kept step.
        self.assertEqual(cheapest(10, 3, [3], 7), (7, None))
        self.assertEqual(cheapest(10, 3, [3], 6), (6, 3))
        self.assertEqual(cheapest(10, 3, [1, 5], 2), (4, 1))
        self.assertEqual(cheapest(0, 20, [18, 19, 21, 22], 1), (2, 19))
        self.assertEqual(cheapest(0, 20, [18, 22], 1), (3, 18))
        self.assertEqual(cheapest(0, 2, [1, 2], 1), (1, 2))

    def test_thirty_digits(self):
        kept = [BIG, 5 * BIG, 7 * BIG + 3]
        self.assertEqual(cheapest(9 * BIG, 2, kept, 1), (BIG - 1, BIG))
        self.assertEqual(cheapest(0, 6 * BIG + 2, kept, BIG), (2 * BIG + 1, 7 * BIG + 3))
        self.assertEqual(cheapest(0, 6 * BIG + 1, kept, BIG), (2 * BIG + 1, 5 * BIG))
        self.assertEqual(cheapest(0, 6 * BIG + 1, kept, 10 * BIG), (6 * BIG + 1, None))

    def test_all_ways(self):
        rng = random.Random(29)
        for _ in range(2000):
            present, target, jump = [rng.randrange(20) for _ in range(3)]
            kept = sorted(rng.sample(range(20), rng.randrange(6)))
            ways = [(abs(target - present), False, None)]
            ways += [(jump + abs(target - step), True, step) for step in kept]
            cost, _, start = min(ways, key=lambda way: (way[0], way[1], way[2] or 0))
            self.assertEqual(cheapest(present, target, kept, jump), (cost, start))

    def test_the_first_wrong_step(self):
        for wrong in WRONG_STEPS:
            for arguments in ((wrong, -2, None, None), (0, wrong, None, None), (0, 0, [wrong, -2], None),
                              (0, 0, [0, 4, wrong, 4], None)):
                with self.assertRaises(InvalidStep) as caught:
                    cheapest(*arguments)
                self.assertIs(caught.exception.value, wrong)
        for kept, wrong in (([3, 3], 3), ([0, 2, 1, -1], 1), ([5, 4, 3], 4), ([0, 0], 0), ([BIG, BIG - 1, None], BIG - 1)):
            with self.assertRaises(InvalidStep) as caught:
                cheapest(0, 0, kept, None)
            self.assertEqual(caught.exception.value, wrong)
        for kept in (None, (), (1, 2), {}, "12", 5, range(3)):
            with self.assertRaises(InvalidStep) as caught:
                cheapest(0, 0, kept, None)
            self.assertIsNone(caught.exception.value)

    def test_wrong_jumps(self):
        for wrong in WRONG_COUNTS:
            with self.assertRaises(InvalidCount) as caught:
                cheapest(0, 5, [1], wrong)
            self.assertIs(caught.exception.value, wrong)

    def test_arguments_stay(self):
        kept = [1, 5, 8]
        cheapest(3, 4, kept, 0)
        self.assertEqual(kept, [1, 5, 8])


def best_of_all(queries, count):
    """The best steps, of all lists of queries."""
    found = []
    for size in range(1, min(count, len(queries)) + 1):
        for kept in combinations(queries, size):
            cost = sum(min(abs(query - step) for step in kept) for query in queries)
            found.append((cost, size, list(kept)))
    cost, _, kept = min(found)
    return cost, kept


class BestStepsTest(unittest.TestCase):
    def test_examples(self):
        self.assertEqual(best_steps([1, 2, 9], 2), (1, [1, 9]))
        self.assertEqual(best_steps(queries=[1, 2, 9], count=1), (8, [2]))
        self.assertEqual(best_steps([1, 2, 9], 3), (0, [1, 2, 9]))
        self.assertEqual(best_steps([1, 2, 9], 60), (0, [1, 2, 9]))
        self.assertEqual(best_steps([0], 1), (0, [0]))
        self.assertIs(type(best_steps([1], 1)), tuple)
        self.assertIs(type(best_steps([1], 1)[1]), list)

    def test_equal_costs(self):
        # The first list of those that are as good.
        self.assertEqual(best_steps([1, 2], 1), (1, [1]))
        self.assertEqual(best_steps([1, 2, 3, 4], 2), (2, [1, 3]))
        self.assertEqual(best_steps([0, 1, 5, 6], 3), (1, [0, 1, 5]))
        self.assertEqual(best_steps([10, 20, 30, 40, 50], 2), (30, [10, 40]))

    def test_thirty_digits(self):
        queries = [1, BIG, BIG + 1, 7 * BIG, 9 * BIG]
        self.assertEqual(best_steps(queries, 3), (BIG, [BIG, 7 * BIG, 9 * BIG]))
        self.assertEqual(best_steps(queries, 1), (15 * BIG - 1, [BIG + 1]))

    def test_all_lists(self):
        rng = random.Random(30)
        for _ in range(250):
            queries = sorted(rng.sample(range(rng.choice((8, 15, 40))), rng.randrange(1, 8)))
            count = rng.randrange(1, 8)
            self.assertEqual(best_steps(queries, count), best_of_all(queries, count))

    def test_sixty_queries(self):
        start = time.process_time()
        queries = [at * at * BIG for at in range(60)]
        cost, kept = best_steps(queries, 59)
        self.assertEqual((cost, kept), (BIG, [queries[0], *queries[2:]]))
        self.assertEqual(best_steps(queries, 60), (0, queries))
        cost, kept = best_steps(queries, 30)
        self.assertEqual(cost, sum(min(abs(query - step) for step in kept) for query in queries))
        self.assertEqual(len(kept), 30)
        # In groups that are far from each other, the best steps are those of each group.
        queries = [group * BIG + at * at for group in range(12) for at in range(5)]
        expected = [group * BIG + step for group in range(12) for step in best_of_all([0, 1, 4, 9, 16], 2)[1]]
        self.assertEqual(best_steps(queries, 24), (12 * best_of_all([0, 1, 4, 9, 16], 2)[0], expected))
        self.assertLess(time.process_time() - start, 5)

    def test_wrong_queries(self):
        for wrong in WRONG_STEPS:
            for queries in ([wrong], [0, 3, wrong, 2], [*range(100), wrong]):
                with self.assertRaises(InvalidStep) as caught:
                    best_steps(queries, None)
                self.assertIs(caught.exception.value, wrong)
        for queries, wrong in (([3, 3], 3), ([0, 2, 1, -1], 1), ([*range(70), 5], 5)):
            with self.assertRaises(InvalidStep) as caught:
                best_steps(queries, None)
            self.assertEqual(caught.exception.value, wrong)
        for queries in (None, (1, 2), (), {}, "1", 1, [], list(range(61))):
            with self.assertRaises(InvalidStep) as caught:
                best_steps(queries, None)
            self.assertIsNone(caught.exception.value)
        self.assertEqual(best_steps(list(range(60)), 60)[0], 0)

    def test_wrong_counts(self):
        for wrong in (0, 61, BIG, *WRONG_COUNTS):
            with self.assertRaises(InvalidCount) as caught:
                best_steps([1, 2], wrong)
            self.assertIs(caught.exception.value, wrong)

    def test_arguments_stay(self):
        queries = [1, 5, 8]
        _, kept = best_steps(queries, 3)
        kept.append(9)
        self.assertEqual(queries, [1, 5, 8])


LINES = ("while a", "  set a = a - 1", "  set x = read", "  print x", "end")


def keeper_of(jump, value=5, inputs=(7, 8, 9, 7, 8)):
    return Keeper(machine_of(*LINES, values={"a": value}, inputs=inputs), jump)


class KeeperTest(unittest.TestCase):
    def test_at_first(self):
        machine = machine_of(*LINES, values={"a": 5})
        machine.forward(2)
        keeper = Keeper(machine=machine, jump=3)
        self.assertEqual((keeper.kept, keeper.spent, keeper.snapshot()), ((), 0, machine))
        machine.forward()
        self.assertEqual(keeper.snapshot().now, 2)
        snapshot = keeper.snapshot()
        snapshot.back()
        self.assertEqual(keeper.snapshot().now, 2)
        self.assertEqual(machine.now, 3)

    def test_visits(self):
        keeper = keeper_of(2)
        spent = 0
        for step, cost, keep in ((4, 4, True), (20, 16, True), (5, 3, False), (4, 1, False), (19, 3, False), (12, 7, True),
                                 (12, 0, False), (0, 6, False), (13, 3, False), (27, 9, False), (3, 3, False)):
            self.assertEqual(keeper.visit(step=step), cost)
            spent += cost
            machine = machine_of(*LINES, values={"a": 5}, inputs=(7, 8, 9, 7, 8))
            machine.go(step)
            self.assertEqual(facts(keeper.snapshot()), facts(machine))
            self.assertEqual(keeper.spent, spent)
            if keep:
                self.assertIsNone(keeper.keep())
        self.assertEqual(keeper.kept, (4, 12, 20))
        self.assertIs(type(keeper.kept), tuple)

    def test_visits_after_jumps_leave_what_is_kept(self):
        keeper = keeper_of(0)
        keeper.visit(10)
        keeper.keep()
        for step, cost in ((12, 2), (0, 10), (13, 3), (0, 10), (9, 1), (0, 9), (10, 0), (0, 10)):
            self.assertEqual(keeper.visit(step), cost)
            self.assertEqual((keeper.snapshot().now, keeper.kept), (step, (10,)))

    def test_steps_kept_twice(self):
        keeper = keeper_of(1)
        keeper.keep()
        keeper.keep()
        self.assertEqual(keeper.kept, (0,))
        keeper.visit(9)
        keeper.keep()
        keeper.visit(0)
        keeper.keep()
        self.assertEqual(keeper.kept, (0, 9))
        self.assertIsNone(keeper.drop(0))
        self.assertEqual(keeper.kept, (9,))
        with self.assertRaises(UnknownStep):
            keeper.drop(0)

    def test_drop(self):
        keeper = keeper_of(1)
        keeper.keep()
        keeper.visit(1)
        keeper.keep()
        keeper.visit(20)
        for wrong in (2, 20, -1, BIG, True, False, None, "1", 1.0, [1], {}, (1,)):
            with self.assertRaises(UnknownStep) as caught:
                keeper.drop(wrong)
            self.assertIs(caught.exception.step, wrong)
        self.assertEqual((keeper.kept, keeper.spent), ((0, 1), 20))
        keeper.drop(step=0)
        keeper.drop(1)
        self.assertEqual(keeper.kept, ())
        self.assertEqual(keeper.visit(0), 20)

    def test_steps_beyond_the_end(self):
        keeper = keeper_of(0)
        end = keeper.snapshot()
        end.finish()
        keeper.visit(3)
        keeper.keep()
        keeper.visit(end.now - 4)
        keeper.keep()
        keeper.visit(7)
        before = (facts(keeper.snapshot()), keeper.kept, keeper.spent)
        for step in (end.now + 1, BIG):
            with self.assertRaises(AtEnd) as caught:
                keeper.visit(step)
            self.assertEqual(caught.exception.step, end.now)
            self.assertEqual((facts(keeper.snapshot()), keeper.kept, keeper.spent), before)
        self.assertEqual(keeper.visit(end.now), 4)

    def test_steps_that_cannot_be_performed(self):
        keeper = keeper_of(1, inputs=(7, 8))
        keeper.visit(10)
        keeper.keep()
        keeper.visit(1)
        before = (facts(keeper.snapshot()), keeper.kept, keeper.spent)
        with self.assertRaises(NoInput) as caught:
            keeper.visit(26)
        self.assertEqual(caught.exception.address, 3)
        self.assertEqual((facts(keeper.snapshot()), keeper.kept, keeper.spent), before)

    def test_wrong_arguments(self):
        keeper = keeper_of(1)
        keeper.visit(2)
        for wrong in WRONG_COUNTS:
            with self.assertRaises(InvalidCount) as caught:
                keeper.visit(wrong)
            self.assertIs(caught.exception.value, wrong)
        self.assertEqual((keeper.snapshot().now, keeper.spent), (2, 2))
        machine = machine_of(*LINES, values={"a": 5})
        machine.forward()
        machine.edit("a", 4)
        machine.edit("a", 5)
        for wrong in WRONG_COUNTS:
            with self.assertRaises(InvalidCount) as caught:
                Keeper(machine, wrong)
            self.assertIs(caught.exception.value, wrong)
        with self.assertRaises(Edited) as caught:
            Keeper(machine, 0)
        self.assertEqual(caught.exception.step, 1)
        machine.back(2)
        self.assertEqual(Keeper(machine, 0).snapshot(), machine)

    def test_great_quiet_loops(self):
        start = time.process_time()
        machine = machine_of("repeat a", "  set x = x + 3", "end", values={"a": BIG})
        keeper = Keeper(machine, BIG)
        self.assertEqual(keeper.visit(2 + 3 * BIG), 2 + 3 * BIG)
        keeper.keep()
        self.assertEqual(keeper.visit(5), 3 * BIG - 3)
        self.assertEqual(keeper.visit(2 * BIG), 2 * BIG - 5)
        self.assertEqual(keeper.visit(3 * BIG), BIG)
        self.assertEqual(keeper.visit(0), 3 * BIG)
        self.assertEqual(keeper.visit(3 * BIG), BIG + 2)
        self.assertEqual(keeper.snapshot().here, 3)
        with self.assertRaises(StepLimit):
            keeper.snapshot().finish(1)
        self.assertLess(time.process_time() - start, 5)

    def test_random_visits(self):
        rng = random.Random(31)
        for _ in range(60):
            program = lively_program(rng)
            machine = Machine(program, *lively_start(rng, program))
            end = machine.copy()
            while True:
                try:
                    end.forward()
                except (IndexError, ArithmeticError):
                    break
                if end.now == 150:
                    break
            jump = rng.randrange(10)
            keeper = Keeper(machine, jump)
            spent = 0
            for _ in range(20):
                if rng.randrange(3) == 0:
                    keeper.keep()
                if keeper.kept and rng.randrange(6) == 0:
                    keeper.drop(rng.choice(keeper.kept))
                now, step = keeper.snapshot().now, rng.randrange(end.now + 1)
                cost = min([abs(step - now)] + [jump + abs(step - kept) for kept in keeper.kept])
                self.assertEqual(keeper.visit(step), cost)
                spent += cost
                end.go(step)
                self.assertEqual(facts(keeper.snapshot()), facts(end))
            self.assertEqual(keeper.spent, spent)


if __name__ == "__main__":
    unittest.main()
