"""Runs without a tape."""

from frugaltape.checks import check_count, check_inputs, check_program, check_values
from frugaltape.configurations import Configuration
from frugaltape.errors import StepLimit
from frugaltape.moves import Moves
from frugaltape.quiet import quiet_loops


def execute(program, values, inputs, limit=10000):
    """Run a program to its end; return the values of all variables, the outputs and the number of steps."""
    check_program(program)
    check_values(values, program.given)
    check_inputs(inputs)
    check_count(limit)
    run = Configuration(program, quiet_loops(Moves(program)), values, inputs)
    steps = 0
    while not run.has_ended():
        if steps == limit:
            raise StepLimit(limit)
        count = run.rounds_ahead(limit - steps)
        if count > 0:
            steps += run.leap(count)
        else:
            run.perform()
            steps += 1
    return run.amounts, tuple(run.printed), steps
