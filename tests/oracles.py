"""What programs do, found in other ways than the package: by their statements, not by their code."""

import sys
from fractions import Fraction
from math import gcd, lcm

# A walk through 400 open calls needs a few functions for each of them.
sys.setrecursionlimit(20000)


def length(block):
    """The number of instructions of a block."""
    total = 0
    for statement in block:
        total += 1
        if statement[0] == "if":
            total += length(statement[2]) + length(statement[3]) + 2
        elif statement[0] in ("while", "repeat"):
            total += length(statement[2]) + 2
    return total


def entries_of(program):
    """The addresses where the procedures begin."""
    address = length(program.main) + 1
    found = {}
    for name, block in program.procedures:
        found[name] = address
        address += length(block) + 1
    return found


class Failure(Exception):
    """A step that cannot be performed."""


class Walk:
    """A real run of a program, statement by statement."""

    def __init__(self, program, values, inputs):
        self.entries = entries_of(program)
        self.blocks = dict(program.procedures)
        self.main = program.main
        self.state = {name: 0 for name in program.names} | values
        self.inputs = list(inputs)
        self.read = 0
        self.outputs = []
        self.stack = []
        # What each step destroyed: its address and the value.
        self.lost = []

    def fail(self, word, address):
        raise Failure(word, address)

    def sum(self, value, address):
        _, constant, terms, divisor = value
        found = Fraction(constant + sum(factor * self.state[name] for factor, name in terms), divisor)
        if found.denominator != 1:
            self.fail("Inexact", address)
        return int(found)

    def value(self, expression, address):
        word = expression[0]
        if word == "sum":
            return self.sum(expression, address)
        if word == "read":
            if self.read == len(self.inputs):
                self.fail("NoInput", address)
            return self.inputs[self.read]
        one, other = [self.sum(part, address) for part in expression[1:]]
        if word == "product" and max(abs(one), abs(other)) >= 10**300:
            self.fail("TooLarge", address)
        if word in ("quotient", "remainder") and other == 0:
            self.fail("ZeroDivisor", address)
        made = {
            "product": lambda: one * other,
            "quotient": lambda: one // other,
            "remainder": lambda: one % other,
            "less": lambda: 1 if one < other else 0,
            "same": lambda: 1 if one == other else 0,
        }
        return made[word]()

    def take(self, expression, address):
        value = self.value(expression, address)
        self.read += expression == ("read",)
        return value

    def push(self, item, address):
        if len(self.stack) == 400:
            self.fail("TooDeep", address)
        self.stack.append(item)

    def steps(self):
        """The addresses of all configurations, each before its step."""
        yield from self.block(self.main, 0)
        yield length(self.main)

    def block(self, block, address):
        for statement in block:
            yield from getattr(self, "do_" + statement[0])(statement, address)
            address += length((statement,))

    def do_set(self, statement, address):
        yield address
        _, name, expression = statement
        value = self.take(expression, address)
        self.lost.append((address, self.state[name]))
        self.state[name] = value

    def do_swap(self, statement, address):
        yield address
        _, one, other = statement
        self.state[one], self.state[other] = self.state[other], self.state[one]

    def do_print(self, statement, address):
        yield address
        self.outputs.append(self.take(statement[1], address))

    def do_call(self, statement, address):
        yield address
        self.push(address + 1, address)
        block, entry = self.blocks[statement[1]], self.entries[statement[1]]
        yield from self.block(block, entry)
        yield entry + length(block)
        self.stack.pop()

    def do_if(self, statement, address):
        yield address
        second = address + 2 + length(statement[2])
        if self.take(statement[1], address) != 0:
            yield from self.block(statement[2], address + 1)
            yield second - 1
            self.lost.append((second - 1, 1))
        else:
            yield from self.block(statement[3], second)
            yield second + length(statement[3])
            self.lost.append((second + length(statement[3]), 0))

    def do_while(self, statement, address):
        yield address
        self.lost.append((address, 0))
        yield address + 1
        while self.take(statement[1], address + 1) != 0:
            yield from self.block(statement[2], address + 2)
            last = address + 2 + length(statement[2])
            yield last
            self.lost.append((last, 1))
            yield address + 1

    def do_repeat(self, statement, address):
        yield address
        rounds = self.value(statement[1], address)
        self.push((rounds, 0), address)
        self.read += statement[1] == ("read",)
        yield address + 1
        while self.stack[-1][1] < rounds:
            self.stack[-1] = (rounds, self.stack[-1][1] + 1)
            yield from self.block(statement[2], address + 2)
            yield address + 2 + length(statement[2])
            yield address + 1
        self.stack.pop()
        self.lost.append((address + 1, rounds))

    def history(self, limit):
        """The configurations up to a step, how the run goes on, and how much was lost before each of them.

        It goes on with None (not followed any further), "end", or the word and address of a failure.
        """
        found = []
        try:
            for address in self.steps():
                found.append(
                    (address, dict(self.state), tuple(self.stack), self.read, tuple(self.outputs), len(self.lost))
                )
                if len(found) > limit:
                    return found, None
        except Failure as failure:
            return found, failure.args
        return found, "end"


def basis(vectors):
    """The reduced basis of integer vectors, with fractions on the way."""
    rows = []
    for vector in vectors:
        rest = [Fraction(entry) for entry in vector]
        for at, row in rows:
            rest = [x - rest[at] * y for x, y in zip(rest, row)]
        lead = next((at for at, entry in enumerate(rest) if entry), None)
        if lead is not None:
            rest = [entry / rest[lead] for entry in rest]
            rows = [(at, [x - row[lead] * y for x, y in zip(row, rest)]) for at, row in rows] + [(lead, rest)]
    found = []
    for _, row in sorted(rows):
        scale = lcm(*[entry.denominator for entry in row])
        found.append(tuple(int(entry * scale) for entry in row))
    return tuple(found)


def equations(width, vectors):
    """The reduced basis of all vectors that are orthogonal to integer vectors."""
    rows = {next(at for at, entry in enumerate(row) if entry): row for row in basis(vectors)}
    found = []
    for free in range(width):
        if free not in rows:
            found.append([Fraction(-rows[at][free], rows[at][at]) if at in rows else Fraction(int(at == free))
                          for at in range(width)])
    scaled = []
    for row in found:
        scale = lcm(*[entry.denominator for entry in row])
        scaled.append(tuple(int(entry * scale) for entry in row))
    return basis(scaled)


def flat(grid):
    return tuple(entry for row in grid for entry in row)


def product(one, other):
    return tuple(tuple(sum(x * y for x, y in zip(row, column)) for column in zip(*other)) for row in one)


class Spaces:
    """The spaces of a program, found by going through its blocks again and again until nothing is new.

    What is known at an address is a list of grids that span all that can be there. The rows of a grid are
    the variables, the values of the open loops, and m; it has one column for states, k + 1 for ways.
    """

    def __init__(self, program):
        self.program = program
        self.names = program.names
        self.entries = entries_of(program)
        self.ways = self.fixed(self.ways_once)
        self.states = self.fixed(self.states_once)

    def fixed(self, once):
        found = {}
        while True:
            self.known, self.found = found, {}
            once()
            if self.found == found:
                return found
            found = self.found

    def ways_once(self):
        k = len(self.names) + 1
        unit = tuple(tuple(int(row == column) for column in range(k)) for row in range(k))
        for name, block in self.program.procedures:
            grids = self.block(block, self.entries[name], [unit], self.known)
            self.note(self.entries[name] + length(block), grids)

    def states_once(self):
        starts = [tuple((0,) for _ in self.names) + ((1,),)]
        for given in self.program.given:
            starts.append(tuple((int(name == given),) for name in self.names) + ((1,),))
        self.note(length(self.program.main), self.block(self.program.main, 0, starts, self.ways))
        for name, block in self.program.procedures:
            entry = self.entries[name]
            starts = self.known.get(("enter", name), [])
            self.note(entry + length(block), self.block(block, entry, starts, self.ways))

    def note(self, address, grids):
        """Add what is known at an address; the grids that span all of it are returned."""
        grids = list(self.found.get(address, [])) + list(grids)
        if grids:
            columns = len(grids[0][0])
            rows = basis(flat(grid) for grid in grids)
            cut = range(0, len(rows[0]), columns)
            grids = [tuple(row[at:at + columns] for at in cut) for row in rows]
            self.found[address] = grids
        return grids

    def block(self, block, address, grids, ways):
        for statement in block:
            grids = self.note(address, grids)
            grids = getattr(self, "do_" + statement[0])(statement, address, grids, ways)
            address += length((statement,))
        return grids

    def row_of(self, expression, grid, choice):
        """The value of an expression as a row, times its divisor, and the divisor."""
        if expression[0] != "sum":
            return [choice * entry for entry in grid[-1]], 1
        _, constant, terms, divisor = expression
        row = [constant * entry for entry in grid[-1]]
        for factor, name in terms:
            row = [entry + factor * other for entry, other in zip(row, grid[self.names.index(name)])]
        return row, divisor

    def choices(self, expression):
        return (None,) if expression[0] == "sum" else (0, 1)

    def do_set(self, statement, address, grids, ways):
        _, name, expression = statement
        place = self.names.index(name)
        found = []
        for grid in grids:
            for choice in self.choices(expression):
                row, divisor = self.row_of(expression, grid, choice)
                changed = [[divisor * entry for entry in other] for other in grid]
                changed[place] = row
                found.append(tuple(map(tuple, changed)))
        return self.note(("after", address), found)

    def do_swap(self, statement, address, grids, ways):
        one, other = [self.names.index(name) for name in statement[1:]]
        found = []
        for grid in grids:
            changed = list(grid)
            changed[one], changed[other] = changed[other], changed[one]
            found.append(tuple(changed))
        return self.note(("after", address), found)

    def do_print(self, statement, address, grids, ways):
        return grids

    def do_call(self, statement, address, grids, ways):
        name = statement[1]
        k = len(self.names)
        self.note(("enter", name), [grid[:k] + grid[-1:] for grid in grids])
        results = ways.get(self.entries[name] + length(dict(self.program.procedures)[name]), [])
        found = []
        for grid in grids:
            for result in results:
                made = product(result, grid[:k] + grid[-1:])
                inner = tuple(tuple(result[-1][-1] * entry for entry in row) for row in grid[k:-1])
                found.append(made[:k] + inner + made[-1:])
        return found

    def do_if(self, statement, address, grids, ways):
        second = address + 2 + length(statement[2])
        one = self.note(second - 1, self.block(statement[2], address + 1, grids, ways))
        zero = self.note(second + length(statement[3]), self.block(statement[3], second, grids, ways))
        return list(one) + list(zero)

    def do_while(self, statement, address, grids, ways):
        last = address + 2 + length(statement[2])
        head = self.note(address + 1, grids)
        while True:
            back = self.note(last, self.block(statement[2], address + 2, head, ways))
            wider = self.note(address + 1, back)
            if wider == head:
                return head
            head = wider

    def do_repeat(self, statement, address, grids, ways):
        opened = []
        for grid in grids:
            for choice in self.choices(statement[1]):
                row, divisor = self.row_of(statement[1], grid, choice)
                wide = [tuple(divisor * entry for entry in other) for other in grid]
                # Ways do not tell the values of open loops.
                inner = [tuple(row)] if len(row) == 1 else []
                opened.append(tuple(wide[:-1] + inner + wide[-1:]))
        last = address + 2 + length(statement[2])
        turn = self.note(address + 1, opened)
        while True:
            back = self.note(last, self.block(statement[2], address + 2, turn, ways))
            wider = self.note(address + 1, back)
            if wider == turn:
                break
            turn = wider
        return [grid if len(grid[0]) > 1 else grid[:-2] + grid[-1:] for grid in turn]

    def open_basis(self, address):
        return basis(flat(grid) for grid in self.states.get(address, []))

    def basis(self, address):
        return basis(self.cut(vector) for vector in self.open_basis(address))

    def after_basis(self, address):
        return basis(self.cut(flat(grid)) for grid in self.states.get(("after", address), []))

    def ways_basis(self, address):
        return basis(flat(grid) for grid in self.ways.get(address, []))

    def cut(self, vector):
        return vector[:len(self.names)] + vector[-1:]


def reduced(vector):
    divisor = gcd(*vector)
    return tuple(entry // divisor for entry in vector)
