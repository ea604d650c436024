"""Quiet loops: any number of their rounds is made at once."""

from frugaltape.checks import check_address, check_program, check_values
from frugaltape.errors import InvalidAddress, InvalidCount
from frugaltape.instructions import written_names
from frugaltape.integers import is_integer
from frugaltape.moves import Moves, is_free, product_entries


class QuietLoop:
    """A quiet loop over the variables of a program, with the matrix of a round."""

    def __init__(self, names, block, matrix):
        self._names = names
        self._matrix = matrix
        self._written = [name for instruction in block for name in written_names(instruction)]
        self.round_steps = len(block) + 2
        self.round_sets = len([instruction for instruction in block if instruction[0] == "set"])

    def is_writing(self, name):
        """Tell whether a round writes a variable."""
        return name in self._written

    def after(self, state, rounds):
        """Return the state after so many rounds, backwards for a negative number."""
        # With N = M - I, a power of M is the sum of the powers of N up to k, each as often as `rounds` things
        # have subsets of so many: a product of fractions that has a meaning for negative numbers, too.
        part = [*[state[name] for name in self._names], 1]
        total = part
        subsets = 1
        for power in range(1, len(part)):
            moved = product_entries(self._matrix, part, 1)
            part = [after - before for after, before in zip(moved, part)]
            subsets = subsets * (rounds - power + 1) // power
            total = [one + subsets * other for one, other in zip(total, part)]
        return {name: total[at] for at, name in enumerate(self._names)}


def is_plain(instruction):
    """Tell whether an instruction may stand in the block of a quiet loop."""
    if instruction[0] == "set":
        return not is_free(instruction[2]) and instruction[2][3] == 1
    return instruction[0] == "swap"


def is_vanishing(matrix, size):
    """Tell whether so high a power of a matrix of a size is 0."""
    power = matrix
    for _ in range(size - 1):
        power = product_entries(matrix, power, size)
    return not any(power)


def quiet_loop(moves, address):
    """Return the quiet loop that begins at an address, or None."""
    if moves.instructions[address][0] != "begin":
        return None
    behind = moves.instructions[address + 1][1]
    block = moves.instructions[address + 2:behind - 1]
    if not all([is_plain(instruction) for instruction in block]):
        return None
    matrix = moves.unit()
    for inside in range(address + 2, behind - 1):
        matrix = moves.result(inside, matrix, moves.size, None)
    change = [one - other for one, other in zip(matrix, moves.unit())]
    return QuietLoop(moves.order, block, matrix) if is_vanishing(change, moves.size) else None


def quiet_loops(moves):
    """Return a dict from the addresses of the `turn` instructions of quiet loops to the loops."""
    found = {}
    for address in range(len(moves.instructions)):
        loop = quiet_loop(moves, address)
        if loop is not None:
            found[address + 1] = loop
    return found


def is_quiet(program, address):
    """Tell whether the instruction at an address is a quiet `begin`."""
    check_program(program)
    check_address(address, program.code)
    return quiet_loop(Moves(program), address) is not None


def after_rounds(program, address, values, rounds):
    """Return the dict of all variables after so many rounds of a quiet loop, backwards if negative."""
    check_program(program)
    check_address(address, program.code)
    loop = quiet_loop(Moves(program), address)
    if loop is None:
        raise InvalidAddress(address)
    check_values(values, program.names)
    if not is_integer(rounds):
        raise InvalidCount(rounds)
    return loop.after(values, rounds)
