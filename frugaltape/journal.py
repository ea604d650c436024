"""Logs: pieces of text that tell how far a run has come.

A run is determined by its program, values and inputs, so a piece holds them and the steps that were made. All
numbers beside the program are written to the base 16, in which numbers of any size can be written.
"""

from frugaltape.checks import check_unedited
from frugaltape.errors import InvalidPieces
from frugaltape.machine import Machine, given_values
from frugaltape.texts import format_program

DIGITS = "0123456789abcdef"


def numbers_text(numbers):
    """Return the text of some numbers."""
    return " ".join([f"{number:x}" for number in numbers])


def heading(program, values, inputs):
    """Return the text with which all pieces of a run begin; different runs have different ones."""
    given = numbers_text([values[name] for name in program.given])
    return f"{format_program(program)}\nvalues {given}\ninputs {numbers_text(inputs)}\n"


def piece_beginning(head, number, start):
    """Return the text with which the piece with a number begins, if the piece before it ended at a step."""
    return f"{head}piece {number:x} from {start:x} to "


def piece_text(head, number, start, end):
    """Return the text of a piece."""
    # All else is known to whoever reads the piece. The end is told twice, so that a change of one character
    # cannot make it another end; as its square, so that other changes will hardly do so either.
    return f"{piece_beginning(head, number, start)}{end:x} square {end * end:x}\n"


def whole_end(piece, head, number, start):
    """Return the step at which a piece ends, or None if the object is not a whole piece that begins so."""
    beginning = piece_beginning(head, number, start)
    if not isinstance(piece, str) or not piece.startswith(beginning):
        return None
    told, _, _ = piece[len(beginning):].partition(" ")
    if not told or not all([letter in DIGITS for letter in told]):
        return None
    end = int(told, 16)
    return end if piece == piece_text(head, number, start, end) else None


class Journal:
    """A copy of a machine, and how far the pieces reach that were written."""

    def __init__(self, machine):
        check_unedited(machine)
        self._machine = machine.copy()
        self._head = heading(machine.program, given_values(machine), machine.inputs)
        self._number = 0
        self._written = 0

    def snapshot(self):
        """Return a copy of the machine."""
        return self._machine.copy()

    def advance(self, count=1):
        """Go so many steps forward."""
        self._machine.forward(count)

    def write(self):
        """Return the piece with all steps since the last piece, or since the start of the run."""
        start, end = self._written, self._machine.now
        text = piece_text(self._head, self._number, start, end)
        self._number += 1
        self._written = end
        return text


def recover(program, values, inputs, pieces):
    """Return the machine as it was when the last one of the whole pieces was written."""
    machine = Machine(program, values, inputs)
    if not isinstance(pieces, list):
        raise InvalidPieces()
    head = heading(program, values, inputs)
    for number, piece in enumerate(pieces):
        end = whole_end(piece, head, number, machine.now)
        if end is None:
            break
        machine.go(end)
    return machine
