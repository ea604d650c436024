"""Programs and parts of programs for the tests."""

from math import gcd

from frugaltape.programs import Program

PAIRS = ("product", "quotient", "remainder", "less", "same")


def total(constant, *terms, by=1):
    """The sum with this constant, these terms and this divisor, taken as they are."""
    return ("sum", constant, terms, by)


ZERO = total(0)
ONE = total(1)
A = total(0, (1, "a"))
X = total(0, (1, "x"))
PRINT = ("print", ONE)


def one_variable(*statements, procedures=()):
    """The program with only the variable x and this main block."""
    return Program((), ("x",), procedures, statements)


def nested(depth, inner=(), word="while"):
    """A block that contains blocks, so that the innermost one, `inner`, is at this depth."""
    block = inner
    for _ in range(depth - 1):
        block = ((word, X, block, ()) if word == "if" else (word, X, block),)
    return block


def random_number(rng):
    return rng.choice((rng.randrange(-9, 10), rng.randrange(-10**20, 10**20), 0, 1, -1, -(10**300) + 1))


def random_sum(rng, names):
    chosen = sorted(rng.sample(names, rng.randrange(len(names) + 1)))
    factors = [random_number(rng) or 1 for _ in chosen]
    constant = random_number(rng)
    divisor = rng.choice((1, 1, 2, 3, 10**25, 10**300 - 1))
    common = gcd(constant, divisor, *factors)
    terms = tuple((factor // common, name) for factor, name in zip(factors, chosen))
    return ("sum", constant // common, terms, divisor // common)


def random_expression(rng, names):
    kind = rng.randrange(8)
    if kind == 0:
        return ("read",)
    if kind == 1:
        return (rng.choice(PAIRS), random_sum(rng, names), random_sum(rng, names))
    return random_sum(rng, names)


def random_statement(rng, names, procedures, depth):
    kinds = ["set", "set", "print"]
    if len(names) > 1:
        kinds.append("swap")
    if procedures and rng.randrange(3) == 0:
        kinds.append("call")
    if depth < 8:
        kinds += ["if", "while", "repeat"]
    kind = rng.choice(kinds)
    if kind == "set":
        return ("set", rng.choice(names), random_expression(rng, names))
    if kind == "swap":
        return ("swap", *rng.sample(names, 2))
    if kind == "call":
        return ("call", rng.choice(procedures))
    expression = random_expression(rng, names)
    if kind == "print":
        return ("print", expression)
    blocks = [random_block(rng, names, procedures, depth + 1) for _ in range(2 if kind == "if" else 1)]
    return (kind, expression, *blocks)


def random_block(rng, names, procedures, depth):
    count = rng.randrange(4) if depth < 4 else rng.randrange(2)
    return tuple(random_statement(rng, names, procedures, depth) for _ in range(count))


def random_parts(rng):
    """Given names, variables, procedures and a main block that make a program unless it is too long."""
    names = rng.sample(["a", "b", "c", "sum", "xyzxyzxy", "z", "endx"], rng.randrange(1, 5))
    split = rng.randrange(len(names) + 1)
    called = rng.sample(["p", "a", "q", "go", "turn", "begin", "test"], rng.randrange(3))
    procedures = tuple((name, random_block(rng, names, called, 1)) for name in called)
    return tuple(names[:split]), tuple(names[split:]), procedures, random_block(rng, names, called, 1)


LONG = 10**300 - 1
SAMPLE = """\
given a b
var x y
proc p
  set x = (-x + 3) / 2
  call q
end
proc q
end
main
  set x = 2 * a + 1
  swap a y
  print read
  if less(a, -2 * b - 7)
    repeat (3 * a) / 4
      print product((a + 1) / 2, x)
      call p
    end
  else
    while same(0, y)
      set y = quotient(x, 5)
    end
  end
  if 12
  end
  while 1
  end
  repeat -x
    set b = remainder(-b, 2 * x)
  end
end"""


def text_of(*lines, head="var a x"):
    """The text of a program without procedures, with these lines in the main block."""
    return "\n".join([head, "main", *["  " + line for line in lines], "end"])
