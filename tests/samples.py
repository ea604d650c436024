"""Programs and parts of programs for the tests."""

from math import gcd

from frugaltape.errors import InvalidProgram
from frugaltape.programs import Program

PAIRS = ("product", "quotient", "remainder", "less", "same")


def total(constant, *terms, by=1):
    """The sum with this constant, these terms and this divisor, taken as they are."""
    return ("sum", constant, terms, by)


ZERO = total(0)
ONE = total(1)
A = total(0, (1, "a"))
X = total(0, (1, "x"))
PRINT = ("print", ONE)


def one_variable(*statements, procedures=()):
    """The program with only the variable x and this main block."""
    return Program((), ("x",), procedures, statements)


def nested(depth, inner=(), word="while"):
    """A block that contains blocks, so that the innermost one, `inner`, is at this depth."""
    block = inner
    for _ in range(depth - 1):
        block = ((word, X, block, ()) if word == "if" else (word, X, block),)
    return block


def random_number(rng):
    return rng.choice((rng.randrange(-9, 10), rng.randrange(-10**20, 10**20), 0, 1, -1, -(10**300) + 1))


def random_sum(rng, names):
    chosen = sorted(rng.sample(names, rng.randrange(len(names) + 1)))
    factors = [random_number(rng) or 1 for _ in chosen]
    constant = random_number(rng)
    divisor = rng.choice((1, 1, 2, 3, 10**25, 10**300 - 1))
    common = gcd(constant, divisor, *factors)
    terms = tuple((factor // common, name) for factor, name in zip(factors, chosen))
    return ("sum", constant // common, terms, divisor // common)


def random_expression(rng, names):
    kind = rng.randrange(8)
    if kind == 0:
        return ("read",)
    if kind == 1:
        return (rng.choice(PAIRS), random_sum(rng, names), random_sum(rng, names))
    return random_sum(rng, names)


def random_statement(rng, names, procedures, depth):
    kinds = ["set", "set", "print"]
    if len(names) > 1:
        kinds.append("swap")
    if procedures and rng.randrange(3) == 0:
        kinds.append("call")
    if depth < 8:
        kinds += ["if", "while", "repeat"]
    kind = rng.choice(kinds)
    if kind == "set":
        return ("set", rng.choice(names), random_expression(rng, names))
    if kind == "swap":
        return ("swap", *rng.sample(names, 2))
    if kind == "call":
        return ("call", rng.choice(procedures))
    expression = random_expression(rng, names)
    if kind == "print":
        return ("print", expression)
    blocks = [random_block(rng, names, procedures, depth + 1) for _ in range(2 if kind == "if" else 1)]
    return (kind, expression, *blocks)


def random_block(rng, names, procedures, depth):
    count = rng.randrange(4) if depth < 4 else rng.randrange(2)
    return tuple(random_statement(rng, names, procedures, depth) for _ in range(count))


def random_parts(rng):
    """Given names, variables, procedures and a main block that make a program unless it is too long."""
    names = rng.sample(["a", "b", "c", "sum", "xyzxyzxy", "z", "endx"], rng.randrange(1, 5))
    split = rng.randrange(len(names) + 1)
    called = rng.sample(["p", "a", "q", "go", "turn", "begin", "test"], rng.randrange(3))
    procedures = tuple((name, random_block(rng, names, called, 1)) for name in called)
    return tuple(names[:split]), tuple(names[split:]), procedures, random_block(rng, names, called, 1)


LONG = 10**300 - 1
SAMPLE = """\
given a b
var x y
proc p
  set x = (-x + 3) / 2
  call q
end
proc q
end
main
  set x = 2 * a + 1
  swap a y
  print read
  if less(a, -2 * b - 7)
    repeat (3 * a) / 4
      print product((a + 1) / 2, x)
      call p
    end
  else
    while same(0, y)
      set y = quotient(x, 5)
    end
  end
  if 12
  end
  while 1
  end
  repeat -x
    set b = remainder(-b, 2 * x)
  end
end"""


def text_of(*lines, head="var a x"):
    """The text of a program without procedures, with these lines in the main block."""
    return "\n".join([head, "main", *["  " + line for line in lines], "end"])


def short_sum(rng, names):
    """A sum of small numbers, mostly with the divisor 1."""
    chosen = sorted(rng.sample(names, rng.randrange(len(names) + 1)))
    factors = [rng.choice((1, 1, 1, -1, 2, -3)) for _ in chosen]
    constant = rng.choice((0, 0, 1, 1, -1, 2, 5))
    divisor = rng.choice((1,) * 30 + (2, 3))
    common = gcd(constant, divisor, *factors)
    terms = tuple((factor // common, name) for factor, name in zip(factors, chosen))
    return ("sum", constant // common, terms, divisor // common)


def lively_expression(rng, names):
    kind = rng.randrange(12)
    if kind == 0:
        return ("read",)
    if kind == 1:
        return (rng.choice(("quotient", "remainder")), short_sum(rng, names), total(rng.choice((2, 3, -5))))
    if kind == 2:
        return (rng.choice(PAIRS), short_sum(rng, names), short_sum(rng, names))
    return short_sum(rng, names)


def lively_condition(rng, names):
    """An expression that is often 0 and often not."""
    kind = rng.randrange(6)
    if kind == 0:
        return short_sum(rng, names)
    if kind == 1:
        return ("read",)
    if kind == 2:
        return ("remainder", short_sum(rng, names), total(rng.choice((2, 3))))
    return (rng.choice(("less", "same")), short_sum(rng, names), short_sum(rng, names))


class Lively:
    """Makes programs whose runs do much, often come to an end, and seldom fail."""

    def __init__(self, rng, names=4, procedures=3):
        self.rng = rng
        self.names = rng.sample(["a", "b", "c", "x", "yy"], rng.randrange(1, names + 1))
        self.called = rng.sample(["p", "q", "a"], rng.randrange(procedures + 1))
        self.calls = 0

    def statement(self, depth):
        rng = self.rng
        kind = rng.choice(["set"] * 6 + ["swap", "print", "call", "call", "if", "if", "while", "repeat", "repeat"])
        if kind == "swap" and len(self.names) > 1:
            return ("swap", *rng.sample(self.names, 2))
        if kind == "print":
            return ("print", lively_expression(rng, self.names))
        if kind == "call" and self.called and self.calls < 8:
            self.calls += 1
            return ("call", rng.choice(self.called))
        if kind == "if" and depth < 5:
            return ("if", lively_condition(rng, self.names), self.block(depth + 1), self.block(depth + 1))
        if kind == "while" and depth < 5:
            return ("while", lively_condition(rng, self.names), self.block(depth + 1))
        if kind == "repeat" and depth < 5:
            small = ("remainder", short_sum(rng, self.names), total(4))
            rounds = rng.choice((small, total(rng.randrange(-1, 4)), ("read",), short_sum(rng, self.names)))
            return ("repeat", rounds, self.block(depth + 1))
        return ("set", rng.choice(self.names), lively_expression(rng, self.names))

    def block(self, depth):
        most = 8 if depth == 1 else 4
        return tuple(self.statement(depth) for _ in range(self.rng.randrange(most)))


def lively_program(rng, names=4, procedures=3):
    """A random program whose runs do much."""
    while True:
        made = Lively(rng, names, procedures)
        split = rng.randrange(len(made.names) + 1)
        blocks = tuple((name, made.block(1)) for name in made.called)
        try:
            return Program(tuple(made.names[:split]), tuple(made.names[split:]), blocks, made.block(1))
        except InvalidProgram:
            pass


def lively_start(rng, program):
    """Given values and inputs for a run of a program."""
    values = {name: rng.randrange(-4, 8) for name in program.given}
    return values, [rng.randrange(-2, 5) for _ in range(rng.randrange(12))]


def limit_program(rng, long=False):
    """A program at the limits of what a program may be, with numbers of 300 digits if they are to be long."""
    while True:
        made = Limits(rng, long)
        blocks = tuple((name, made.block(1, rng.randrange(2, 6))) for name in made.called)
        try:
            program = Program(("a", "b"), ("c", "d"), blocks, made.block(1, rng.randrange(2, 6)))
        except InvalidProgram:
            continue
        if len(program.code) >= 100 and made.calls == 8:
            return program


class Limits:
    """Makes programs with four names, six procedures that call each other, nested loops and eight calls."""

    def __init__(self, rng, long):
        self.rng = rng
        self.long = long
        self.names = ["a", "b", "c", "d"]
        self.called = ["p", "q", "r", "s", "t", "u"]
        self.calls = 0

    def number(self):
        if self.long:
            return self.rng.randrange(-10**299, 10**299)
        return self.rng.choice((-3, -2, -1, 1, 2, 3))

    def sum(self):
        chosen = sorted(self.rng.sample(self.names, self.rng.randrange(1, 5)))
        factors = [self.number() for _ in chosen]
        constant = self.number()
        divisor = self.rng.choice((1, abs(self.number())))
        common = gcd(constant, divisor, *factors)
        return ("sum", constant // common, tuple((f // common, name) for f, name in zip(factors, chosen)), divisor // common)

    def statement(self, depth):
        rng = self.rng
        kind = rng.choice(["set"] * 5 + ["swap", "call", "call", "if", "while", "repeat"])
        if kind == "swap":
            return ("swap", *rng.sample(self.names, 2))
        if kind == "call" and self.calls < 8:
            self.calls += 1
            return ("call", rng.choice(self.called))
        if kind == "if" and depth < 8:
            return ("if", self.sum(), self.block(depth + 1, rng.randrange(1, 4)), self.block(depth + 1, rng.randrange(3)))
        if kind in ("while", "repeat") and depth < 8:
            return (kind, self.sum(), self.block(depth + 1, rng.randrange(1, 4)))
        return ("set", rng.choice(self.names), ("read",) if rng.randrange(12) == 0 else self.sum())

    def block(self, depth, count):
        return tuple(self.statement(depth) for _ in range(count))
