"""The free runs that make the rows of a paper, by their origins."""

from frugaltape.paper_rows import MATRICES, VECTORS


def step_count(origin, counts, matrix_counts):
    """Return how many steps make a row with an origin, where those of earlier rows and of matrices are known."""
    word, *told = origin
    if word in ("entry", "start"):
        return 0
    if word == "call":
        # The call and the return are steps, too.
        return counts[told[0]] + matrix_counts[told[1]] + 2
    return counts[told[0]] + 1


def steps_of(groups, row):
    """Return how many steps make a row of vectors."""
    matrix_counts = []
    for _, _, origin in groups[MATRICES]:
        matrix_counts.append(step_count(origin, matrix_counts, matrix_counts))
    counts = []
    for _, _, origin in groups[VECTORS][:row + 1]:
        counts.append(step_count(origin, counts, matrix_counts))
    return counts[row]


def choices_of(groups, row):
    """Return the tuple of the choices that make a row of vectors, and the given variable that is 1 at the start."""
    choices = []
    # What comes later in the run is looked at first. The rows may be too many to go from one to the other
    # by functions that call themselves.
    waiting = [(VECTORS, row)]
    start = None
    while waiting:
        group, number = waiting.pop()
        word, *told = groups[group][number][2]
        if word == "start":
            start = told[0]
        elif word != "entry":
            waiting.append((group, told[0]))
        if word == "call":
            waiting.append((MATRICES, told[1]))
        if word == "step" and told[1] is not None:
            choices.append(told[1])
    return tuple(choices[::-1]), start
