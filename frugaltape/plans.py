"""Plans: how a step is reached most cheaply, and which steps are kept best."""

from frugaltape.checks import check_count, check_unedited
from frugaltape.errors import InvalidCount, InvalidStep, UnknownStep
from frugaltape.integers import is_integer

# The greatest number of queries, and of steps to keep for them.
MAX_QUERIES = 60


def check_step(candidate, lowest=0):
    """Raise an error unless the object is a step from a lowest one on."""
    if not is_integer(candidate) or candidate < lowest:
        raise InvalidStep(candidate)


def check_steps(candidate):
    """Raise an error unless the object is an ascending list of different steps."""
    if not isinstance(candidate, list):
        raise InvalidStep(None)
    lowest = 0
    for step in candidate:
        check_step(step, lowest)
        lowest = step + 1


def cheapest(present, target, kept, jump):
    """Return the least cost to come from a step to another one, and the kept step to jump to, or None."""
    check_step(present)
    check_step(target)
    check_steps(kept)
    check_count(jump)
    cost, start = abs(target - present), None
    for step in kept:
        other = jump + abs(target - step)
        if other < cost:
            cost, start = other, step
    return cost, start


def cost_between(queries, one, other):
    """Return the cost of the queries between those at two positions, if no step between them is kept."""
    low, high = queries[one], queries[other]
    return sum([min(query - low, high - query) for query in queries[one:other]])


def cost_before(queries, at):
    """Return the cost of the queries before a position, if the first kept step is the query there."""
    return sum([queries[at] - query for query in queries[:at]])


def cost_behind(queries, at):
    """Return the cost of the queries behind a position, if the last kept step is the query there."""
    return sum([query - queries[at] for query in queries[at:]])


def with_one_more(queries, between, plans):
    """Return the best plans with one more kept step, as a dict from the positions of the last kept steps."""
    found = {}
    for at in range(1, len(queries)):
        others = [(plans[last][0] + between[last][at], plans[last][1]) for last in range(at) if last in plans]
        if others:
            cost, kept = min(others)
            found[at] = (cost, [*kept, queries[at]])
    return found


def best_steps(queries, count):
    """Return the least sum of the distances of queries to kept steps, and the smallest list of such steps."""
    check_steps(queries)
    if not 1 <= len(queries) <= MAX_QUERIES:
        raise InvalidStep(None)
    if not is_integer(count) or not 1 <= count <= MAX_QUERIES:
        raise InvalidCount(count)
    places = range(len(queries))
    between = [[cost_between(queries, one, other) for other in places] for one in places]
    # A plan is the cost of the queries up to its last kept step, and the list of its kept steps.
    plans = {at: (cost_before(queries, at), [queries[at]]) for at in places}
    # Until all queries are kept, each step more makes the cost smaller: fewer steps are never as good.
    for _ in range(min(count, len(queries)) - 1):
        plans = with_one_more(queries, between, plans)
    return min([(plans[at][0] + cost_behind(queries, at), plans[at][1]) for at in plans])


class Keeper:
    """A copy of a machine that is moved, and copies of it at the steps that are kept."""

    def __init__(self, machine, jump):
        check_count(jump)
        check_unedited(machine)
        self._machine = machine.copy()
        self._jump = jump
        self._copies = {}
        self._spent = 0

    @property
    def kept(self):
        """The ascending tuple of the kept steps."""
        return tuple(sorted(self._copies))

    @property
    def spent(self):
        """The sum of the costs of all visits."""
        return self._spent

    def snapshot(self):
        """Return a copy of the machine."""
        return self._machine.copy()

    def keep(self):
        """Keep the present step."""
        self._copies[self._machine.now] = self._machine.copy()

    def drop(self, step):
        """Keep a step no longer."""
        if not is_integer(step) or step not in self._copies:
            raise UnknownStep(step)
        del self._copies[step]

    def visit(self, step):
        """Go to a step by the cheapest way, and return the cost."""
        check_count(step)
        cost, start = cheapest(self._machine.now, step, list(self.kept), self._jump)
        machine = self._machine if start is None else self._copies[start].copy()
        machine.go(step)
        self._machine = machine
        self._spent += cost
        return cost
