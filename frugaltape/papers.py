"""Papers that show that decisions are right, and papers that show where runs end."""

from frugaltape.checks import are_integers, check_count, check_program, check_unedited, is_state
from frugaltape.errors import InvalidPaper, NotDone, RunError, StepLimit, UnknownRow
from frugaltape.exploring import Exploration
from frugaltape.guides import Guide
from frugaltape.integers import is_integer
from frugaltape.machine import given_values
from frugaltape.moves import Moves
from frugaltape.paper_checking import are_matrices, are_moves, are_vectors, is_number_below, is_tuple_of
from frugaltape.paper_decisions import are_decisions
from frugaltape.paper_making import made_paper
from frugaltape.paper_rows import VECTORS, PaperRows
from frugaltape.row_runs import choices_of, steps_of
from frugaltape.runs import Run

# A run of more steps is not followed to its end.
MAX_STEPS = 100000


def paper(program):
    """Return a paper of a program."""
    check_program(program)
    return made_paper(Exploration(program))


def is_paper(program, candidate):
    """Tell whether any object is a paper of a program."""
    check_program(program)
    if not is_tuple_of(candidate, 4):
        return False
    matrices, vectors, moves, decisions = candidate
    known = Moves(program)
    if not are_matrices(known, matrices) or not are_vectors(known, program.given, matrices, vectors):
        return False
    rows = PaperRows(known, matrices, vectors)
    return are_moves(rows, moves) and are_decisions(rows, decisions)


def row_run(program, candidate, row, limit=2000):
    """Return the start, the choices and the steps of a free run that makes a row of vectors of a paper."""
    if not is_paper(program, candidate):
        raise InvalidPaper()
    groups = candidate[:2]
    if not is_number_below(row, len(groups[VECTORS])):
        raise UnknownRow(row)
    check_count(limit)
    steps = steps_of(groups, row)
    if steps > limit:
        raise StepLimit(limit)
    choices, start = choices_of(groups, row)
    return {name: int(name == start) for name in program.given}, choices, steps


def run_paper(machine):
    """Return the run paper of a machine that is done and was never edited."""
    if not machine.is_done:
        raise NotDone(machine.now)
    check_unedited(machine)
    return given_values(machine), machine.inputs, machine.now, machine.state, machine.tape


def has_form(program, candidate):
    """Tell whether any object has the form of a run paper of a program."""
    if not is_tuple_of(candidate, 5):
        return False
    values, inputs, steps, end, tape = candidate
    if not is_state(values, program.given) or not is_state(end, program.names):
        return False
    return are_integers(inputs) and is_integer(steps) and are_integers(tape)


def follow(run, steps):
    """Go forward to a step number, if neither the end nor so many steps come first that it takes too long."""
    counted = 0
    while run.steps < steps and not run.has_ended() and counted < MAX_STEPS:
        # A quiet loop counts as two: its first step and its last one.
        if not run.leap_forward(steps - run.steps):
            run.step_forward()
            counted += 1


def is_run_paper(program, candidate):
    """Tell whether any object is the run paper of a run of a program that ends."""
    check_program(program)
    if not has_form(program, candidate):
        return False
    values, inputs, steps, end, tape = candidate
    run = Run(Guide(program), values, inputs)
    try:
        follow(run, steps)
    except RunError:
        return False
    return run.has_ended() and run.steps == steps and run.amounts == end and tuple(run.records) == tape
