"""Edited machines, compared with others."""

from frugaltape.checks import check_past_step
from frugaltape.errors import DifferentPrograms


def compared(one, other):
    """Return the tuple of the names whose values differ in two machines of the same program."""
    if one.program != other.program:
        raise DifferentPrograms()
    return tuple([name for name in one.program.names if one[name] != other[name]])


def what_if(machine, step, name, value, limit=10000):
    """Return a copy of a machine that went back to a step, was edited there, and then went to the end."""
    check_past_step(step, machine)
    other = machine.copy()
    other.go(step)
    other.edit(name, value)
    other.finish(limit)
    return other
