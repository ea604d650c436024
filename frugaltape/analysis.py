"""What is possible in a program: spaces, equations and decisions."""

from frugaltape.checks import check_address, check_program, check_values
from frugaltape.deciding import RECORD, decisions
from frugaltape.errors import InvalidAddress
from frugaltape.exploring import Exploration
from frugaltape.linear import dot
from frugaltape.residues import spanned_basis
from frugaltape.spaces import Space


def moved_space(moves, address, space):
    """Return the space of the states after a `set` or `swap` before which the states are those of a space."""
    choices = moves.choices(address)
    results = [moves.result(address, vector, 1, choice) for vector in space.basis for choice in choices]
    return Space(space.width, [tuple(result) for result in results])


class Analysis:
    """All that free runs of a program can reach, and what is to be recorded."""

    def __init__(self, program):
        check_program(program)
        explored = Exploration(program)
        self._moves = explored.moves
        self._names = program.names
        self._matrices = explored.matrices
        self._bases = explored.bases
        self._main = program.code.index(("stop",))
        self._decisions = decisions(explored.moves, explored.bases)
        self._recording = tuple([at for at, decision in enumerate(self._decisions) if decision == RECORD])

    @property
    def recording(self):
        """The ascending tuple of the addresses where something is recorded."""
        return self._recording

    def space(self, address):
        """Return the space of the states before an instruction."""
        check_address(address, self._moves.instructions)
        return Space(self._moves.size, [self._moves.state_part(vector) for vector in self._bases[address]])

    def open_space(self, address):
        """Return the space of the states before an instruction with the values of its open loops."""
        check_address(address, self._moves.instructions)
        return Space(self._moves.size + self._moves.depths[address], self._bases[address])

    def after(self, address):
        """Return the space of the states after an instruction."""
        before = self.space(address)
        word = self._moves.instructions[address][0]
        if word == "stop":
            raise InvalidAddress(address)
        return moved_space(self._moves, address, before) if word in ("set", "swap") else before

    def ways(self, address):
        """Return the space of the matrices of free runs from the entry of a procedure to an address of it."""
        check_address(address, self._moves.instructions)
        if address <= self._main:
            raise InvalidAddress(address)
        # A space that is made of a reduced basis has no long vectors to clear by each other.
        return Space(self._moves.size * self._moves.size, spanned_basis(self._matrices.at(address)))

    def equations(self, address):
        """Return the basis of all equations that hold in all states before an instruction."""
        return (~self.space(address)).basis

    def fits(self, address, values):
        """Tell whether a state satisfies all equations that hold before an instruction."""
        equations = self.equations(address)
        check_values(values, self._names)
        vector = [*[values[name] for name in self._names], 1]
        return not any([dot(equation, vector) for equation in equations])

    def decision(self, address):
        """Return what the machine does at an address."""
        check_address(address, self._moves.instructions)
        return self._decisions[address]
