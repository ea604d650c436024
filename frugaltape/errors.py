"""The errors of the package; each keeps the objects that it is given in fields of the same names."""


class TapeError(ValueError):
    """The base of all errors about arguments that are not as they must be."""


class InvalidWidth(TapeError):
    """The value is no width."""

    def __init__(self, value):
        self.value = value


class InvalidVectors(TapeError):
    """No list or tuple (None), or the position of the first element that is no vector of the width."""

    def __init__(self, position):
        self.position = position


class InvalidSpace(TapeError):
    """The value is no space."""

    def __init__(self, value):
        self.value = value


class InvalidProgram(TapeError):
    """The part of a program that is not as described; None for an object that is no program."""

    def __init__(self, part):
        self.part = part


class InvalidValues(TapeError):
    """The value is no dict of exactly the names that are asked for and integers."""

    def __init__(self, value):
        self.value = value


class InvalidInputs(TapeError):
    """No list or tuple (None), or the position of the first element that is no integer."""

    def __init__(self, position):
        self.position = position


class InvalidCount(TapeError):
    """The value is no count."""

    def __init__(self, value):
        self.value = value


class InvalidChoices(TapeError):
    """No list or tuple (None), or the position of the first choice that is wrong or missing."""

    def __init__(self, position):
        self.position = position


class InvalidAddress(TapeError):
    """The value is no address of the code, or not one of the kind that is asked for."""

    def __init__(self, value):
        self.value = value


class InvalidPaper(TapeError):
    """The candidate is no paper of the program."""


class InvalidExpression(TapeError):
    """The value is no expression over the variables of the program."""

    def __init__(self, value):
        self.value = value


class InvalidStep(TapeError):
    """The value is no step, or not greater than the one before it."""

    def __init__(self, value):
        self.value = value


class InvalidValue(TapeError):
    """The value is no integer."""

    def __init__(self, value):
        self.value = value


class InvalidPieces(TapeError):
    """The pieces are no list."""


class InvalidSteps(TapeError):
    """No list or tuple (None), or the position of the first rewriting step that cannot be performed."""

    def __init__(self, position):
        self.position = position


class InvalidNames(TapeError):
    """The value is no dict from all names to different new names."""

    def __init__(self, value):
        self.value = value


class InvalidLine(TapeError):
    """The line is none that a console understands."""


class ParseError(TapeError):
    """The line that shows that a text is not that of a program; None for what is no string."""

    def __init__(self, line):
        self.line = line


class WidthMismatch(TapeError):
    """The widths of two spaces that should be equal."""

    def __init__(self, first, second):
        self.first = first
        self.second = second


class Busy(TapeError):
    """The length of a stack that should be empty."""

    def __init__(self, depth):
        self.depth = depth


class Unfitting(TapeError):
    """An equation of the address that does not hold in a new state."""

    def __init__(self, equation):
        self.equation = equation


class Dependent(TapeError):
    """The statement at the address and the one behind it are not independent."""

    def __init__(self, address):
        self.address = address


class DifferentPrograms(TapeError):
    """Two machines have programs that are not equal."""


class Edited(TapeError):
    """The step of the first edit of a machine that should have none."""

    def __init__(self, step):
        self.step = step


class NotDone(TapeError):
    """The step of a machine that should be at the end of its run."""

    def __init__(self, step):
        self.step = step


class UnknownName(KeyError):
    """The name is not one of those that are asked for."""

    def __init__(self, name):
        self.name = name


class UnknownBreakpoint(LookupError):
    """There is no breakpoint at the address."""

    def __init__(self, address):
        self.address = address


class UnknownStep(LookupError):
    """The step is not kept."""

    def __init__(self, step):
        self.step = step


class UnknownRow(LookupError):
    """The row is not the number of a row of the paper."""

    def __init__(self, row):
        self.row = row


class NoMachine(LookupError):
    """A console has no machine yet."""


class NothingToUndo(LookupError):
    """There is no command that is not undone."""


class RunError(ArithmeticError):
    """The base of the errors of a step that cannot be performed, with its address."""

    def __init__(self, address):
        self.address = address


class Inexact(RunError):
    """A sum is not divisible by its divisor."""


class ZeroDivisor(RunError):
    """A quotient or remainder by 0."""


class NoInput(RunError):
    """All inputs were read."""


class TooLarge(RunError):
    """A factor of a product has too many digits."""


class TooDeep(RunError):
    """The stack is full."""


class AtEnd(IndexError):
    """The run ends, at the step, before a move is done."""

    def __init__(self, step):
        self.step = step


class AtStart(IndexError):
    """The run begins before a move back is done."""


class StepLimit(OverflowError):
    """A run does not end within the limit."""

    def __init__(self, limit):
        self.limit = limit
