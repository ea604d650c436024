"""Papers, made and checked in another way than by the package: with grids, step by step as the document says."""

from fractions import Fraction
from math import gcd

from oracles import product, reduced


def grid_of(row, columns):
    return [list(row[at:at + columns]) for at in range(0, len(row), columns)]


def flat(grid):
    return tuple(entry for row in grid for entry in row)


class Moves:
    """The moves of point 23 for a program."""

    def __init__(self, program):
        self.code = program.code
        self.names = program.names
        self.k = len(program.names)
        self.entries = {name: program.entry(name) for name, _ in program.procedures}
        self.main = self.code.index(("stop",))

    def end(self, name):
        """The address of the `return` of a procedure."""
        address = self.entries[name]
        while self.code[address] != ("return",):
            address += 1
        return address

    def choices(self, address):
        """The choices of the cases; None for a move without one."""
        word, *rest = self.code[address]
        if word in ("call", "return", "stop"):
            return []
        if word in ("test", "turn") or word in ("set", "begin") and rest[-1][0] != "sum":
            return [1, 0]
        return [None]

    def allowed(self, address, choice):
        if self.choices(address) == [1, 0]:
            return choice is not None and (choice in (0, 1) or self.code[address][0] in ("set", "begin"))
        return choice is None and self.choices(address) == [None]

    def value(self, expression, grid, choice):
        """The row of the value of an expression, times its divisor, and the divisor."""
        if expression[0] != "sum":
            return [choice * entry for entry in grid[-1]], 1
        _, constant, terms, divisor = expression
        row = [constant * entry for entry in grid[-1]]
        for factor, name in terms:
            row = [entry + factor * other for entry, other in zip(row, grid[self.names.index(name)])]
        return row, divisor

    def unreduced(self, address, row, columns, choice):
        """The target and the result of a move, before it is reduced."""
        grid = grid_of(row, columns)
        word, *rest = self.code[address]
        target = address + 1
        if word == "set":
            made, divisor = self.value(rest[1], grid, choice)
            grid = [[divisor * entry for entry in line] for line in grid]
            grid[self.names.index(rest[0])] = made
        elif word == "swap":
            one, other = [self.names.index(name) for name in rest]
            grid[one], grid[other] = grid[other], grid[one]
        elif word in ("go", "again"):
            target = rest[0]
        elif word in ("test", "turn") and choice == 0:
            target = rest[-1]
            if word == "turn" and columns == 1:
                del grid[-2]
        elif word == "begin" and columns == 1:
            made, divisor = self.value(rest[0], grid, choice)
            grid = [[divisor * entry for entry in line] for line in grid]
            grid.insert(len(grid) - 1, made)
        return target, flat(grid)

    def state(self, row, columns):
        """The lines of the variables and of m."""
        grid = grid_of(row, columns)
        return grid[:self.k] + grid[-1:]

    def called(self, matrix, row, columns):
        grid = grid_of(row, columns)
        made = product(grid_of(matrix, self.k + 1), self.state(row, columns))
        inner = [[matrix[-1] * entry for entry in line] for line in grid[self.k:-1]]
        return reduced(flat(list(made[:-1]) + inner + [made[-1]]))

    def cases(self, matrices, vectors):
        """All cases in their order: whether they are of a matrix, the target and the result."""
        found = []
        for rows, columns in ((matrices, self.k + 1), (vectors, 1)):
            for address, row, _ in rows:
                for choice in self.choices(address):
                    target, result = self.unreduced(address, row, columns, choice)
                    found.append((columns > 1, target, reduced(result)))
                if self.code[address][0] == "call":
                    name = self.code[address][1]
                    if columns == 1:
                        found.append((False, self.entries[name], reduced(flat(self.state(row, 1)))))
                    for at, matrix, _ in matrices:
                        if at == self.end(name):
                            found.append((columns > 1, address + 1, self.called(matrix, row, columns)))
        return found

    def made(self, rows, number, origin, matrices):
        """The address and the row that an origin makes."""
        columns = 1 if matrices is not None else self.k + 1
        word, *told = origin
        if word == "entry":
            names = list(self.entries)
            return self.entries[names[number]], flat([[int(x == y) for x in range(self.k + 1)] for y in range(self.k + 1)])
        if word == "start":
            return 0, tuple(int(name == told[0]) for name in self.names) + (1,)
        assert 0 <= told[0] < number
        address, row, _ = rows[told[0]]
        if word == "step":
            assert self.allowed(address, told[1])
            target, result = self.unreduced(address, row, columns, told[1])
            return target, reduced(result)
        name = self.code[address][1]
        assert self.code[address][0] == "call"
        if word == "enter":
            return self.entries[name], reduced(flat(self.state(row, 1)))
        assert word == "call" and 0 <= told[1] < (number if matrices is None else len(matrices))
        at, matrix, _ = (rows if matrices is None else matrices)[told[1]]
        assert at == self.end(name)
        return address + 1, self.called(matrix, row, columns)

    def lost(self, address, row, choice):
        """The entries of the state after a step that destroys something, and the entry that was destroyed."""
        word, *rest = self.code[address]
        _, result = self.unreduced(address, row, 1, choice)
        after = flat(self.state(result, 1))
        if word == "turn":
            return after, row[-2]
        return after, row[self.names.index(rest[0])] * (after[-1] // row[-1])

    def losing(self, address):
        return [0] if self.code[address][0] == "turn" else self.choices(address)


def solved(rows, goal):
    """Fractions with which rows add up to a goal, or None; the rows may depend on each other."""
    lines = [[Fraction(row[at]) for row in rows] + [Fraction(goal[at])] for at in range(len(goal))]
    pivots = []
    for column in range(len(rows)):
        lead = next((line for line in lines[len(pivots):] if line[column]), None)
        if lead is None:
            continue
        lines.remove(lead)
        lead = [entry / lead[column] for entry in lead]
        lines = [[x - line[column] * y for x, y in zip(line, lead)] for line in lines]
        lines.insert(len(pivots), lead)
        pivots.append(column)
    if any(line[-1] for line in lines[len(pivots):]):
        return None
    found = [Fraction(0)] * len(rows)
    for line, column in zip(lines, pivots):
        found[column] = line[-1]
    return found


def made_moves(program, matrices, vectors):
    """The moves of a paper with these rows."""
    moves = []
    for is_matrix, target, result in Moves(program).cases(matrices, vectors):
        rows = matrices if is_matrix else vectors
        numbers = [number for number, row in enumerate(rows) if row[0] == target]
        factors = solved([rows[number][1] for number in numbers], result)
        scale = 1
        for factor in factors:
            scale = scale * factor.denominator // gcd(scale, factor.denominator)
        moves.append((scale, tuple((int(factor * scale), number) for factor, number in zip(factors, numbers) if factor)))
    return tuple(moves)


def add_up(parts):
    """The sum of vectors, each behind its factor."""
    total = None
    for factor, vector in parts:
        made = [factor * entry for entry in vector]
        total = made if total is None else [one + other for one, other in zip(total, made)]
    return total


def accepts(program, candidate):
    """Whether any object is a paper of a program."""
    if not has_form(program, candidate):
        return False
    try:
        check(program, *candidate)
    except (AssertionError, IndexError):
        return False
    return True


def is_list(told, *kinds):
    """Whether an object is a tuple of as many objects, each of its kind: a class, or a test."""
    return type(told) is tuple and len(told) == len(kinds) and all(
        type(part) is kind if isinstance(kind, type) else kind(part) for part, kind in zip(told, kinds))


def many(*kinds):
    """The test of a tuple of any number of tuples."""
    return lambda told: type(told) is tuple and all(is_list(part, *kinds) for part in told)


def word(*words):
    return lambda told: type(told) is str and told in words


def choice(told):
    return told is None or type(told) is int


def is_origin(told):
    return (is_list(told, word("entry")) or is_list(told, word("start"), lambda name: name is None or type(name) is str)
            or is_list(told, word("step"), int, choice) or is_list(told, word("enter"), int)
            or is_list(told, word("call"), int, int))


def is_row(told):
    return is_list(told, int, lambda row: type(row) is tuple and all(type(entry) is int for entry in row), is_origin)


def is_sum(program, told):
    if not is_list(told, word("sum"), int, many(int, word(*program.names)), int):
        return False
    _, constant, terms, divisor = told
    names = [name for _, name in terms]
    factors = [factor for factor, _ in terms]
    return sorted(set(names)) == names and 0 not in factors and divisor > 0 and gcd(constant, divisor, *factors) == 1


def is_decision(program, told, instruction):
    parts = many(int, int)
    witness = many(int, int, choice)
    if instruction[0] == "go":
        witness = lambda told: is_list(told, parts, parts)
    elif instruction[0] not in ("set", "turn"):
        return told is None
    return (is_list(told, word("never")) or is_list(told, word("only"), int) or is_list(told, word("record"), witness)
            or is_list(told, word("apart" if instruction[0] == "go" else "given"), lambda value: is_sum(program, value)))


def has_form(program, told):
    """Whether all parts of an object are of the kinds that those of a paper have."""
    if not is_list(told, tuple, tuple, tuple, tuple):
        return False
    matrices, vectors, moves, decisions = told
    return (all(map(is_row, matrices + vectors)) and many(int, many(int, int))(moves) and len(decisions) == len(program.code)
            and all(is_decision(program, *pair) for pair in zip(decisions, program.code)))


def check(program, matrices, vectors, moves, decisions):
    known = Moves(program)
    starts = [("start", None)] + [("start", name) for name in program.given]
    for rows, firsts, others in ((matrices, [("entry",)] * len(known.entries), None), (vectors, starts, matrices)):
        assert [row[2] for row in rows[:len(firsts)]] == firsts
        assert all(row[2][0] not in ("entry", "start") for row in rows[len(firsts):])
        for number, (address, row, origin) in enumerate(rows):
            assert (address, row) == known.made(rows, number, origin, others)
    cases = known.cases(matrices, vectors)
    assert len(moves) == len(cases)
    for (multiple, parts), (is_matrix, target, result) in zip(moves, cases):
        rows = matrices if is_matrix else vectors
        assert multiple != 0 and parts
        assert all(0 <= number < len(rows) and rows[number][0] == target for _, number in parts)
        assert add_up([(factor, rows[number][1]) for factor, number in parts]) == [multiple * entry for entry in result]
    assert len(decisions) == len(known.code)
    for address, decision in enumerate(decisions):
        check_decision(known, vectors, decisions, address, decision)


def value(known, expression, state):
    _, constant, terms, divisor = expression
    total = constant * state[-1] + sum(factor * state[known.names.index(name)] for factor, name in terms)
    return Fraction(total, divisor * state[-1])


def check_decision(known, vectors, decisions, address, decision):
    word, *rest = known.code[address]
    if word not in ("set", "go", "turn"):
        assert decision is None
        return
    rows = [(number, row) for number, (at, row, _) in enumerate(vectors) if at == address]
    if word == "go":
        check_join(known, vectors, decisions, address, decision)
    elif decision == ("never",):
        assert not rows
    elif decision[0] == "only":
        assert False
    elif decision[0] == "given":
        for _, row in rows:
            for choice in known.losing(address):
                after, lost = known.lost(address, row, choice)
                assert value(known, decision[1], after) == Fraction(lost, after[-1])
    else:
        assert decision[0] == "record" and decision[1]
        parts = []
        for factor, number, choice in decision[1]:
            assert vectors[number][0] == address
            assert known.allowed(address, choice) and (word != "turn" or choice == 0)
            after, lost = known.lost(address, vectors[number][1], choice)
            parts.append((factor, (*after, lost)))
        total = add_up(parts)
        assert not any(total[:-1]) and total[-1]


def check_join(known, vectors, decisions, address, decision):
    target = known.code[address][1]
    ways = {known.code[at][2]: at for at in range(len(known.code)) if known.code[at][:2] == ("go", target)}
    assert decisions[ways[0]] == decisions[ways[1]]
    states = {way: [flat(known.state(row, 1)) for at, row, _ in vectors if at == ways[way]] for way in ways}
    if decision == ("never",):
        assert not states[0] and not states[1]
    elif decision[0] == "only":
        assert decision[1] in (0, 1) and states[decision[1]] and not states[1 - decision[1]]
    elif decision[0] == "apart":
        assert states[0] and states[1]
        assert all(value(known, decision[1], state) == way for way in ways for state in states[way])
    else:
        assert decision[0] == "record" and len(decision[1]) == 2 and all(decision[1])
        totals = []
        for way in (0, 1):
            assert all(vectors[number][0] == ways[way] for _, number in decision[1][way])
            totals.append(add_up([(factor, flat(known.state(vectors[number][1], 1))) for factor, number in decision[1][way]]))
        assert totals[0] == totals[1] and totals[0][-1]


def other_rows(program, rng, extra):
    """Rows of a paper that are found in a random order, with this many more than are needed at each address."""
    known = Moves(program)
    k = known.k
    unit = flat([[int(x == y) for x in range(k + 1)] for y in range(k + 1)])
    matrices = [(entry, unit, ("entry",)) for entry in known.entries.values()]
    spread(known, rng, matrices, matrices, k + 1, extra)
    vectors = [(0, tuple(int(name == given) for name in known.names) + (1,), ("start", given))
               for given in (None, *program.given)]
    spread(known, rng, vectors, matrices, 1, extra)
    return tuple(matrices), tuple(vectors)


def spread(known, rng, rows, matrices, columns, extra):
    """Add rows until they span all, and some that depend on others."""
    more = {}
    while True:
        found = list(following(known, rows, matrices, columns))
        rng.shuffle(found)
        for address, row, origin in found:
            here = [other for at, other, _ in rows if at == address]
            if not here or solved(here, row) is None:
                break
            if more.get(address, 0) < extra and max(abs(entry) for entry in row) < 10**6:
                more[address] = more.get(address, 0) + 1
                break
        else:
            return
        rows.append((address, row, origin))


def following(known, rows, matrices, columns):
    """All rows that can be made of those that there are."""
    for number, (address, row, _) in enumerate(rows):
        word, *rest = known.code[address]
        for choice in known.choices(address):
            target, result = known.unreduced(address, row, columns, choice)
            yield target, reduced(result), ("step", number, choice)
        if word == "call":
            if columns == 1:
                yield known.entries[rest[0]], reduced(flat(known.state(row, 1))), ("enter", number)
            for at, (end, matrix, _) in enumerate(matrices):
                if end == known.end(rest[0]):
                    yield address + 1, known.called(matrix, row, columns), ("call", number, at)


def made_decisions(program, vectors, decisions):
    """The decisions of a paper with these rows, where those of the analysis are known."""
    known = Moves(program)
    found = []
    for address, decision in enumerate(decisions):
        if decision != ("record",):
            found.append(decision)
        elif program.code[address][0] == "go":
            found.append(("record", join_witness(known, vectors, program.code[address][1])))
        else:
            found.append(("record", place_witness(known, vectors, address)))
    return tuple(found)


def vanishing(pairs):
    """Integers with which pairs add up to 0, but for their last entry."""
    factors = solved(pairs, [0] * (len(pairs[0]) - 1) + [1])
    scale = 1
    for factor in factors:
        scale *= factor.denominator
    return [int(factor * scale) for factor in factors]


def place_witness(known, vectors, address):
    uses = [(number, choice) for number, (at, _, _) in enumerate(vectors) if at == address for choice in known.losing(address)]
    pairs = []
    for number, choice in uses:
        after, lost = known.lost(address, vectors[number][1], choice)
        pairs.append((*after, lost))
    return tuple((factor, *use) for factor, use in zip(vanishing(pairs), uses))


def join_witness(known, vectors, target):
    ways = {known.code[at][2]: at for at in range(len(known.code)) if known.code[at][:2] == ("go", target)}
    numbers = {way: [number for number, row in enumerate(vectors) if row[0] == ways[way]] for way in (0, 1)}
    states = {way: [flat(known.state(vectors[number][1], 1)) for number in numbers[way]] for way in (0, 1)}
    pairs = [(*[-entry for entry in state], 0) for state in states[0]] + [(*state, state[-1]) for state in states[1]]
    factors = vanishing(pairs)
    cut = len(states[0])
    return tuple(zip(factors[:cut], numbers[0])), tuple(zip(factors[cut:], numbers[1]))
