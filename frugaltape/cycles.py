"""Cycles of graphs whose edges are triples of a node, the next node, and a number of entries.

The nodes are numbers from 0, and from 0 all of them can be reached.
"""

from frugaltape.integers import common_divisor


def lowest_terms(entries, steps):
    """Return a quotient of two numbers in lowest terms."""
    divisor = common_divisor([entries, steps])
    return entries // divisor, steps // divisor


def is_greater(one, other):
    """Tell whether a quotient is greater than another one."""
    return one[0] * other[1] > other[0] * one[1]


def greatest_walks(size, graph):
    """Return a list of the most entries of walks from 0 to each node, for each number of edges up to `size`."""
    walks = [{0: 0}]
    for _ in range(size):
        longer = {}
        for one, other, entries in graph:
            if one in walks[-1]:
                total = walks[-1][one] + entries
                longer[other] = max(total, longer.get(other, total))
        walks.append(longer)
    return walks


def least_gain(walks, node):
    """Return the least quotient of what the longest walks to a node have more than shorter ones."""
    found = None
    for length, walk in enumerate(walks[:-1]):
        if node in walk:
            gain = (walks[-1][node] - walk[node], len(walks) - 1 - length)
            if found is None or is_greater(found, gain):
                found = gain
    return found


def greatest_quotient(size, graph):
    """Return the greatest quotient of entries and edges of all cycles, or None if there is no cycle."""
    # This is Karp's theorem: of all nodes the greatest, of all lengths the least of these quotients.
    walks = greatest_walks(size, graph)
    found = None
    for node in walks[-1]:
        gain = least_gain(walks, node)
        if found is None or is_greater(gain, found):
            found = gain
    return None if found is None else lowest_terms(*found)


def weight(quotient, entries):
    """Return by how much an edge with these entries exceeds a quotient, times the quotient's lower part."""
    return quotient[1] * entries - quotient[0]


def heights_above(size, graph, quotient):
    """Return the list of least heights from 0 that rise along each edge by its weight, where no cycle has more."""
    heights = [0 for _ in range(size)]
    is_rising = True
    while is_rising:
        is_rising = False
        for one, other, entries in graph:
            least = heights[one] + weight(quotient, entries)
            if heights[other] < least:
                heights[other] = least
                is_rising = True
    return heights


def some_cycle(pairs):
    """Return the tuple of the nodes of a cycle of some pairs of a node and the next one, which have a cycle."""
    count = len(pairs) + 1
    while len(pairs) < count:
        count = len(pairs)
        # A pair that leads to where no pair begins is in no cycle.
        starts = {one: True for one, _ in pairs}
        pairs = [(one, other) for one, other in pairs if other in starts]
    following = {one: other for one, other in pairs}
    walk = [pairs[0][0]]
    while following[walk[-1]] not in walk:
        walk.append(following[walk[-1]])
    return tuple(walk[walk.index(following[walk[-1]]):])


def tight_cycle(graph, quotient, heights):
    """Return a cycle of the quotient: along its edges the heights rise by no more than they must."""
    tight = [
        (one, other) for one, other, entries in graph
        if heights[other] - heights[one] == weight(quotient, entries)
    ]
    return some_cycle(tight)
