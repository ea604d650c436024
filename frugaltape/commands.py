"""The lines of a console: how they are read, and what they do to a machine."""

from frugaltape.analysis import Analysis
from frugaltape.errors import InvalidLine, ParseError
from frugaltape.machine import Machine
from frugaltape.phrases import is_numeral
from frugaltape.questions import last_write
from frugaltape.renaming import format_machine
from frugaltape.reversing import reversed_program
from frugaltape.texts import format_program, parse_program

NONE = "-"


def read_number(word):
    """Return the number that a word is the text of."""
    body = word.removeprefix("-")
    if not is_numeral(body):
        raise InvalidLine()
    number = int(body) if body == word else -int(body)
    if str(number) != word:
        raise InvalidLine()
    return number


def read_numbers(text):
    """Return the list of the numbers of a text, which may be empty."""
    return [read_number(word) for word in text.split(" ")] if text else []


def read_machine(text):
    """Return the machine that the text behind the word `load` describes."""
    parts = text.split(" ; ")
    if len(parts) != 3:
        raise InvalidLine()
    try:
        program = parse_program(parts[0].replace("|", "\n"))
    except ParseError:
        raise InvalidLine() from None
    values, inputs = [read_numbers(part) for part in parts[1:]]
    if len(values) != len(program.given):
        raise InvalidLine()
    return Machine(program, {name: value for name, value in zip(program.given, values)}, inputs)


def words_or_none(words):
    """Return the text of some words."""
    return " ".join(words) if words else NONE


def go_forward(machine, count):
    """Perform the line `forward N`."""
    machine.forward(count)
    return format_machine(machine)


def go_back(machine, count):
    """Perform the line `back N`."""
    machine.back(count)
    return format_machine(machine)


def go_to(machine, step):
    """Perform the line `go N`."""
    machine.go(step)
    return format_machine(machine)


def finish(machine):
    """Perform the line `finish`."""
    machine.finish()
    return format_machine(machine)


def edit(machine, name, value):
    """Perform the line `edit NAME VALUE`."""
    machine.edit(name, value)
    return format_machine(machine)


def show(machine):
    """Perform the line `show`."""
    return format_machine(machine)


def show_tape(machine):
    """Perform the line `tape`."""
    return words_or_none([str(entry) for entry in machine.tape])


def show_equations(machine):
    """Perform the line `equations`."""
    equations = Analysis(machine.program).equations(machine.here)
    return words_or_none([",".join([str(entry) for entry in equation]) for equation in equations])


def show_decisions(machine):
    """Perform the line `decisions`."""
    return words_or_none([str(address) for address in Analysis(machine.program).recording])


def show_reversed(machine):
    """Perform the line `reverse`."""
    return format_program(reversed_program(machine.program)).replace("\n", "|")


def show_write(machine, name):
    """Perform the line `write NAME`."""
    found = last_write(machine, name)
    return NONE if found is None else f"{found[0]} {found[1]}"


# What a line does, and whether the words behind its first one are numbers.
COMMANDS = {
    "forward": (go_forward, (True,)),
    "back": (go_back, (True,)),
    "go": (go_to, (True,)),
    "finish": (finish, ()),
    "edit": (edit, (False, True)),
    "show": (show, ()),
    "tape": (show_tape, ()),
    "equations": (show_equations, ()),
    "decisions": (show_decisions, ()),
    "reverse": (show_reversed, ()),
    "write": (show_write, (False,)),
}


def read_command(line):
    """Return the function that performs a line, and the list of what it is handed beside the machine."""
    word, *rest = line.split(" ")
    if word not in COMMANDS or "" in rest:
        raise InvalidLine()
    action, kinds = COMMANDS[word]
    if len(rest) != len(kinds):
        raise InvalidLine()
    return action, [read_number(told) if is_number else told for told, is_number in zip(rest, kinds)]
