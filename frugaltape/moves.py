"""Moves: what the instructions of a program make of open vectors and of matrices.

An open vector is (n1, .., nk, b1, .., bj, m): the variables are n1 / m, .., nk / m, and b1 / m, .., bj / m
the values of the `begin` instructions whose loops are open. A matrix is written row after row. Both are
treated alike, as rows with a number of columns: an open vector is a matrix with a single column.
"""

from frugaltape.linear import divided, dot


def is_free(expression):
    """Tell whether an expression may have any integer as its value in a free run."""
    return expression[0] != "sum"


def loop_depths(code):
    """Return a tuple of the numbers of the loops of `repeat` that are open at the addresses."""
    depths = [0 for _ in code]
    for address, instruction in enumerate(code):
        if instruction[0] == "turn":
            for inside in range(address, instruction[1]):
                depths[inside] += 1
    return tuple(depths)


def product_entries(matrix, rows, columns):
    """Return the list of the entries of the product of a square matrix with rows of some columns."""
    size = len(rows) // columns
    lines = [matrix[at:at + size] for at in range(0, size * size, size)]
    pillars = [rows[at::columns] for at in range(columns)]
    return [dot(line, pillar) for line in lines for pillar in pillars]


class Moves:
    """The moves of a program."""

    def __init__(self, program):
        self.instructions = program.code
        self.order = program.names
        self.size = len(program.names) + 1
        self.entries = {name: program.entry(name) for name, _ in program.procedures}
        self.returns = {name: self.instructions.index(("return",), self.entries[name]) for name in self.entries}
        # The addresses of the calls that each `return` may lead back from.
        self.callers = {self.returns[name]: [] for name in self.entries}
        for address, instruction in enumerate(self.instructions):
            if instruction[0] == "call":
                self.callers[self.returns[instruction[1]]].append(address)
        self.depths = loop_depths(self.instructions)
        self._places = {name: at for at, name in enumerate(program.names)}

    def place(self, name):
        """Return the position of a variable in vectors."""
        return self._places[name]

    def unit(self):
        """Return the unit matrix."""
        return tuple([int(row == column) for row in range(self.size) for column in range(self.size)])

    def choices(self, address):
        """Return a tuple of the choices of the moves to look at, None for a move without a choice."""
        instruction = self.instructions[address]
        word = instruction[0]
        if word in ("call", "return", "stop"):
            return ()
        if word in ("test", "turn"):
            return (1, 0)
        if word in ("set", "begin") and is_free(instruction[-1]):
            return (1, 0)
        return (None,)

    def target(self, address, choice):
        """Return the address to which the move with a choice leads."""
        instruction = self.instructions[address]
        word = instruction[0]
        if word in ("go", "again"):
            return instruction[1]
        if word in ("test", "turn") and choice == 0:
            return instruction[-1]
        return address + 1

    def value_entries(self, expression, rows, columns, choice):
        """Return the value of an expression times m times its divisor, in each column, and its divisor."""
        last = rows[-columns:]
        if is_free(expression):
            return [choice * entry for entry in last], 1
        _, constant, terms, divisor = expression
        entries = [constant * entry for entry in last]
        for factor, name in terms:
            start = self._places[name] * columns
            part = rows[start:start + columns]
            entries = [entry + factor * other for entry, other in zip(entries, part)]
        return entries, divisor

    def result(self, address, rows, columns, choice):
        """Return the list of what the move makes of rows, before it is reduced."""
        instruction = self.instructions[address]
        word = instruction[0]
        if word == "set":
            return self._after_set(instruction, rows, columns, choice)
        if word == "swap":
            return self._after_swap(instruction, rows, columns)
        if columns == 1 and word == "begin":
            entries, divisor = self.value_entries(instruction[1], rows, 1, choice)
            whole = [divisor * entry for entry in rows]
            return whole[:-1] + entries + whole[-1:]
        if columns == 1 and word == "turn" and choice == 0:
            return [*rows[:-2], rows[-1]]
        return list(rows)

    def _after_set(self, instruction, rows, columns, choice):
        _, name, expression = instruction
        entries, divisor = self.value_entries(expression, rows, columns, choice)
        whole = [divisor * entry for entry in rows]
        start = self._places[name] * columns
        return whole[:start] + entries + whole[start + columns:]

    def _after_swap(self, instruction, rows, columns):
        _, one, other = instruction
        one_start = self._places[one] * columns
        other_start = self._places[other] * columns
        result = list(rows)
        result[one_start:one_start + columns] = rows[other_start:other_start + columns]
        result[other_start:other_start + columns] = rows[one_start:one_start + columns]
        return result

    def state_part(self, vector):
        """Return the entries of the variables and m of an open vector."""
        return tuple([*vector[:self.size - 1], vector[-1]])

    def called(self, matrix, rows, columns):
        """Return what a call makes of rows, by a matrix of the called procedure at its return."""
        head = (self.size - 1) * columns
        inner = rows[head:-columns]
        entries = product_entries(matrix, [*rows[:head], *rows[-columns:]], columns)
        return divided([*entries[:head], *[matrix[-1] * entry for entry in inner], *entries[head:]])
