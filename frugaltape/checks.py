"""Checks of arguments that several functions share."""

from frugaltape.errors import (
    Edited, InvalidAddress, InvalidCount, InvalidInputs, InvalidProgram, InvalidValues,
)
from frugaltape.integers import is_integer
from frugaltape.programs import Program


def check_program(candidate):
    """Raise an error unless the object is a program."""
    if not isinstance(candidate, Program):
        raise InvalidProgram(None)


def is_state(candidate, names):
    """Tell whether any object is a dict of exactly these names, with integers as values."""
    if not isinstance(candidate, dict) or len(candidate) != len(names):
        return False
    return all([name in candidate and is_integer(candidate[name]) for name in names])


def check_values(candidate, names):
    """Raise an error unless the object is a dict of exactly these names, with integers as values."""
    if not is_state(candidate, names):
        raise InvalidValues(candidate)


def first_wrong(candidate):
    """Return the position of the first element of a list or tuple that is no integer, or None."""
    for position, value in enumerate(candidate):
        if not is_integer(value):
            return position
    return None


def are_integers(candidate):
    """Tell whether any object is a tuple of integers."""
    return isinstance(candidate, tuple) and first_wrong(candidate) is None


def check_inputs(candidate):
    """Raise an error unless the object is a list or tuple of integers."""
    if not isinstance(candidate, (list, tuple)):
        raise InvalidInputs(None)
    position = first_wrong(candidate)
    if position is not None:
        raise InvalidInputs(position)


def check_count(candidate):
    """Raise an error unless the object is an integer from 0."""
    if not is_integer(candidate) or candidate < 0:
        raise InvalidCount(candidate)


def check_address(candidate, code):
    """Raise an error unless the object is an address of the code."""
    if not is_integer(candidate) or not 0 <= candidate < len(code):
        raise InvalidAddress(candidate)


def check_past_step(candidate, machine):
    """Raise an error unless the object is the number of a step up to the present one of a machine."""
    if not is_integer(candidate) or not 0 <= candidate <= machine.now:
        raise InvalidCount(candidate)


def check_unedited(machine):
    """Raise an error if a machine has edits."""
    if machine.edits:
        raise Edited(machine.edits[0][0])
