import random
import unittest

from frugaltape import rewriting
from frugaltape.analysis import Analysis
from frugaltape.errors import Dependent, InvalidAddress, InvalidProgram, InvalidSteps, RunError, StepLimit
from frugaltape.machine import Machine
from frugaltape.programs import Program
from frugaltape.rewriting import counted, exchanged, lifted, paying, rewritten, saving, sunk, thrifty
from frugaltape.texts import format_program, parse_program
from rewriting_oracle import steps_of
from samples import Lively, lively_program, lively_start, text_of

WORDS = {"exchange": exchanged, "sink": sunk, "lift": lifted, "count": counted}
HEAD = "given a b\nvar x y"


def program_of(*lines, head=HEAD):
    return parse_program(text_of(*lines, head=head))


def lines_of(program):
    """The lines of the main block."""
    lines = format_program(program).split("\n")
    return [line[2:] for line in lines[lines.index("main") + 1:-1]]


def finished(program, values, inputs, limit=400):
    """The machine at the end of its run, or None."""
    machine = Machine(program, values, inputs)
    try:
        machine.finish(limit)
    except (RunError, StepLimit):
        return None
    return machine


def results(machine):
    return None if machine is None else (machine.state, machine.outputs, machine.read_count)


class Rewritten(unittest.TestCase):
    def check_addresses(self, program, call, allowed, dependent=()):
        """The call raises errors for all addresses but the allowed ones."""
        for address in [*range(-1, len(program.code) + 2), 10**40, None, True, False, "1", 1.0, [1], {}, (0,)]:
            if type(address) is int and address in allowed:
                self.assertIsInstance(call(program, address), (Program, tuple))
            else:
                known = type(address) is int and address in dependent
                with self.assertRaises(Dependent if known else InvalidAddress) as caught:
                    call(program, address)
                self.assertIs(caught.exception.address if known else caught.exception.value, address)


class WrongProgramTest(unittest.TestCase):
    def test_no_program(self):
        for wrong in (None, 1, "main\nend", Program, ("sum",), {}):
            for call in (exchanged, sunk, lifted, counted, saving, paying, thrifty, rewritten):
                with self.assertRaises(InvalidProgram) as caught:
                    call(wrong) if call in (paying, thrifty) else call(wrong, None)
                self.assertIsNone(caught.exception.part)


class ExchangedTest(Rewritten):
    def test_independent_statements(self):
        program = program_of("set x = a + 1", "set y = read", "set b = y", "set a = 3")
        self.assertEqual(lines_of(exchanged(program, 0)), ["set y = read", "set x = a + 1", "set b = y", "set a = 3"])
        self.assertEqual(lines_of(exchanged(program=program, address=2)),
                         ["set x = a + 1", "set y = read", "set a = 3", "set b = y"])
        self.check_addresses(program, exchanged, (0, 2), (1,))

    def test_exchanged_twice(self):
        program = program_of("set x = a + 1", "set y = read")
        self.assertEqual(exchanged(exchanged(program, 0), 0), program)
        self.assertNotEqual(exchanged(program, 0), program)

    def test_each_dependence(self):
        for one, other, expected in (
            ("set x = a", "set y = b", True), ("set x = a", "set y = a", True), ("set x = x + 1", "set y = y - 1", True),
            ("set x = read", "set y = less(a, b)", True), ("set x = product(a, b)", "set y = read", True),
            ("set x = 1", "set y = (a + 1) / 2", True),
            # Both write the same variable.
            ("set x = 1", "set x = 2", False), ("set x = 1", "set x = 1", False),
            # One reads what the other one writes.
            ("set x = a", "set y = x", False), ("set x = y", "set y = a", False), ("set x = 1", "set y = 2 * b + x", False),
            ("set x = 1", "set y = same(a, x)", False), ("set x = 1", "set y = less(x, 3)", False),
            ("set x = remainder(2, y)", "set y = 1", False), ("set x = quotient(y, 2)", "set y = 1", False),
            ("set x = product(a, a + 2 * y)", "set y = 1", False), ("set x = (y + 1) / 2", "set y = 1", False),
            # Both read an input.
            ("set x = read", "set y = read", False),
        ):
            program = program_of("print 1", one, other)
            if expected:
                self.assertEqual(lines_of(exchanged(program, 1)), ["print 1", other, one])
            else:
                with self.assertRaises(Dependent) as caught:
                    exchanged(program, 1)
                self.assertEqual(caught.exception.address, 1)

    def test_in_every_block(self):
        text = "\n".join(["given a", "var x y", "proc p", "  set x = 1", "  set y = 2", "end", "proc q", "end", "proc r", "  print 1",
                          "  set x = 3", "  set y = 4", "end", "main", "  call p", "  if a", "    set x = 5", "    set y = 6", "  else",
                          "    swap x y", "    set x = 7", "    set y = 8", "  end", "  while a", "    repeat 2", "      set x = 9",
                          "      set y = 10", "    end", "    set x = 11", "    set y = 12", "  end", "end"])
        program = parse_program(text)
        addresses = [at for at in range(len(program.code) - 1) if program.code[at][0] == program.code[at + 1][0] == "set"]
        self.assertEqual(len(addresses), 6)
        self.check_addresses(program, exchanged, addresses)
        for address in addresses:
            lines = text.split("\n")
            _, name, (_, number, _, _) = program.code[address]
            at = [line.strip() for line in lines].index(f"set {name} = {number}")
            lines[at:at + 2] = [lines[at + 1], lines[at]]
            self.assertEqual(format_program(exchanged(program, address)), "\n".join(lines))

    def test_statements_between(self):
        program = program_of("set x = 1", "print 1", "set y = 2", "if a", "  set x = 1", "end", "set y = 3", "while a", "  set x = 2", "end",
                             "set b = 1")
        self.check_addresses(program, exchanged, ())

    def test_it_records_as_much(self):
        """In a sequence of `set` instructions it depends on the spaces around it how many record."""
        rng = random.Random(35)
        found = 0
        for _ in range(250):
            program = lively_program(rng)
            analysis = Analysis(program)
            self.check_sequences(program, analysis)
            for (word, address), made in steps_of(program).items():
                if word == "exchange" and made is not None:
                    other = Analysis(exchanged(program, address))
                    pair = (address, address + 1)
                    counts = [len([at for at in one.recording if at in pair]) for one in (analysis, other)]
                    rests = [[at for at in one.recording if at not in pair] for one in (analysis, other)]
                    self.assertEqual(counts[0], counts[1])
                    self.assertEqual(rests[0], rests[1])
                    found += 1
        self.assertGreater(found, 50)

    def check_sequences(self, program, analysis):
        code = program.code
        for first in range(len(code)):
            last = first
            while code[last][0] == "set":
                between = range(first, last + 1)
                if len(analysis.space(first)) > 0:
                    free = len([at for at in between if code[at][2][0] != "sum"])
                    expected = len(analysis.space(first)) - len(analysis.after(last)) + free
                    self.assertEqual(len([at for at in between if at in analysis.recording]), expected)
                last += 1

    def test_runs(self):
        rng = random.Random(36)
        ended = 0
        for _ in range(200):
            program = lively_program(rng)
            values, inputs = lively_start(rng, program)
            machine = finished(program, values, inputs)
            for (word, address), made in steps_of(program).items():
                if word == "exchange" and made is not None:
                    other = finished(exchanged(program, address), values, inputs)
                    self.assertEqual(results(other), results(machine))
                    if machine is not None:
                        self.assertEqual((len(other.tape), other.now), (len(machine.tape), machine.now))
                        ended += 1
        self.assertGreater(ended, 30)


class SunkAndLiftedTest(Rewritten):
    def test_by_hand(self):
        program = program_of("if a", "  print 1", "else", "  swap x y", "end", "set x = y", "print x")
        lines = ["if a", "  print 1", "  set x = y", "else", "  swap x y", "  set x = y", "end", "print x"]
        self.check_addresses(program, sunk, (5,))
        other = sunk(program=program, address=5)
        self.assertEqual(lines_of(other), lines)
        self.check_addresses(other, lifted, (0,))
        self.assertEqual(lifted(program=other, address=0), program)

    def test_empty_blocks(self):
        program = program_of("if a", "end", "set x = y")
        other = sunk(program, 3)
        self.assertEqual(lines_of(other), ["if a", "  set x = y", "else", "  set x = y", "end"])
        self.assertEqual(lifted(other, 0), program)

    def test_what_is_not_directly_behind_an_if(self):
        program = program_of("set x = 1", "if a", "end", "print 1", "set x = 1", "while a", "end", "set x = 1", "repeat a", "end", "set x = 1",
                             "if a", "end", "set y = 1", "set x = 1", "if a", "  set x = 1", "end")
        code = program.code
        (allowed,) = [at for at in range(len(code)) if code[at] == ("set", "y", ("sum", 1, (), 1))]
        self.check_addresses(program, sunk, (allowed,))
        self.check_addresses(program, lifted, ())

    def test_what_cannot_be_lifted(self):
        same = ("set x = y + 1", "set x = y + 1")
        for one, other, expected in (
            (*same, True), ("set x = read", "set x = read", True), ("set x = y + 1", "set x = y + 2", False), ("set x = y", "set a = y", False),
            ("set x = y", "set x = 2 * y", False), ("print 1", "print 1", False), ("swap x y", "swap x y", False),
            ("set x = read", "set x = 0", False), ("set x = less(a, b)", "set x = less(b, a)", False),
        ):
            program = program_of("if a", "  print 5", "  " + one, "else", "  " + other, "end")
            self.check_addresses(program, lifted, (0,) if expected else ())
        # The last statements count.
        self.check_addresses(program_of("if a", "  set x = 1", "  print 1", "else", "  set x = 1", "end"), lifted, ())
        self.check_addresses(program_of("if a", "  set x = 1", "else", "  set x = 1", "  print 1", "end"), lifted, ())
        self.check_addresses(program_of("if a", "  set x = 1", "end"), lifted, ())
        self.check_addresses(program_of("if a", "else", "  set x = 1", "end"), lifted, ())
        self.check_addresses(program_of("while a", "  set x = 1", "end", "repeat a", "  set x = 1", "end"), lifted, ())
        # A test that an `if` leads to is not the head of a `while`.
        program = program_of("if a", "end", "if a", "  set x = 1", "else", "  set x = 1", "end", "while a", "  set x = 1", "end")
        self.check_addresses(program, lifted, (3,))

    def test_in_procedures_and_inner_blocks(self):
        program = parse_program("given a\nvar x\nproc p\n  print 1\nend\nproc q\n  repeat a\n    if a\n      while a\n      end\n    end\n"
                                "    set x = 4\n  end\nend\nmain\n  call q\nend")
        address = program.code.index(("set", "x", ("sum", 4, (), 1)))
        other = sunk(program, address)
        moved = "      end\n      set x = 4\n    else\n      set x = 4\n    end\n"
        expected = format_program(program).replace("      end\n    end\n    set x = 4\n", moved)
        self.assertEqual(format_program(other), expected)
        self.assertEqual(lifted(other, program.code.index(("test", ("sum", 0, ((1, "a"),), 1), address - 1))), program)
        self.check_addresses(program, sunk, (address,))

    def test_sizes(self):
        for size, expected in ((119, True), (120, False)):
            program = program_of(*["print 1"] * (size - 5), "if a", "end", "set x = read")
            self.assertEqual(len(program.code), size)
            address = size - 2
            if expected:
                self.assertEqual(len(sunk(program, address).code), 120)
                self.assertEqual(saving(program, address), (0, 0))
                self.assertEqual(lifted(sunk(program, address), size - 5), program)
            else:
                for call in (sunk, saving):
                    with self.assertRaises(InvalidProgram) as caught:
                        call(program, address)
                    self.assertEqual(caught.exception.part, "size")
                    with self.assertRaises(InvalidAddress):
                        call(program, address - 1)
                self.assertEqual(paying(program), ())
                with self.assertRaises(InvalidSteps) as caught:
                    rewritten(program, [("sink", address)])
                self.assertEqual(caught.exception.position, 0)

    def test_runs(self):
        rng = random.Random(37)
        ended = 0
        for _ in range(200):
            program = rng.choice((lively_program, sinking_program, sunk_program))(rng)
            if program is None:
                continue
            values, inputs = lively_start(rng, program)
            machine = finished(program, values, inputs)
            for (word, address), made in steps_of(program).items():
                if word in ("sink", "lift"):
                    other = WORDS[word](program, address)
                    self.assertEqual(results(finished(other, values, inputs)), results(machine))
                    ended += machine is not None
        self.assertGreater(ended, 50)


COUNTING = ("while less(x, a + 2)", "  print x", "  set y = y + 1", "  set x = x + 1", "end")


class CountedTest(Rewritten):
    def test_by_hand(self):
        program = program_of(*COUNTING)
        self.check_addresses(program, counted, (1,))
        self.assertEqual(lines_of(counted(program=program, address=1)), ["repeat a - x + 2", *COUNTING[1:]])
        for bound, expected in (("0", "-x"), ("b - 2 * y", "b - x - 2 * y"), ("-y - 7", "-x - y - 7")):
            program = program_of(f"while less(x, {bound})", "  set x = x + 1", "end")
            self.assertEqual(lines_of(counted(program, 1)), [f"repeat {expected}", "  set x = x + 1", "end"])

    def test_each_condition(self):
        self.check_addresses(program_of(*COUNTING), counted, (1,))
        for at, line, expected in (
            # Other conditions.
            (0, "while x", False), (0, "while same(x, a + 2)", False), (0, "while less(a + 2, x)", False), (0, "while read", False),
            (0, "while less(x + 1, a)", False), (0, "while less(2 * x, a)", False), (0, "while less(-x, a)", False),
            (0, "while less(a + x, b)", False), (0, "while less((x) / 2, b)", False), (0, "while less(3, a)", False),
            (0, "while less(b, a + 2)", False), (0, "while less(y, a + 2)", False),
            # Other bounds.
            (0, "while less(x, (a) / 2)", False), (0, "while less(x, (a + 2) / 3)", False), (0, "while less(x, x + 2)", False),
            (0, "while less(x, a + x)", False), (0, "while less(x, y)", False), (0, "while less(x, a - 3 * y)", False),
            (0, "while less(x, 5)", True), (0, "while less(x, 3 * a - 7 * b)", True),
            # Other last statements.
            (3, "  set x = x + 2", False), (3, "  set x = x - 1", False), (3, "  set x = 2 * x + 1", False), (3, "  set x = 1", False),
            (3, "  set x = a + x + 1", False), (3, "  set y = x + 1", False), (3, "  set x = y + 1", False), (3, "  set y = y + 1", False),
            (3, "  set x = (x + 1) / 2", False), (3, "  print x", False), (3, "  set x = read", False),
            # What is written before it.
            (2, "  set x = 2", False), (2, "  set a = a", False), (2, "  swap x b", False), (2, "  swap b x", False), (2, "  swap y a", False),
            (2, "  swap y b", True), (2, "  set b = read", True), (2, "  set y = product(a, x)", True), (2, "  print read", True),
            (1, "  set x = x + 1", False),
        ):
            lines = list(COUNTING)
            lines[at] = line
            self.check_addresses(program_of(*lines), counted, (1,) if expected else ())
        self.check_addresses(program_of(*COUNTING[:-1], "  print 1", "end"), counted, ())
        self.check_addresses(program_of("while less(x, a)", "end"), counted, ())
        self.check_addresses(program_of("if less(x, a)", "  set x = x + 1", "end"), counted, ())
        self.check_addresses(program_of("if less(x, a)", "else", "  set x = x + 1", "end"), counted, ())
        self.check_addresses(program_of("repeat less(x, a)", "  set x = x + 1", "end"), counted, ())
        self.check_addresses(program_of("print less(x, a)", "set x = x + 1"), counted, ())

    def test_writes_and_calls_at_any_depth(self):
        for line, expected in (("set a = 1", False), ("set x = 1", False), ("swap a b", False), ("call p", False), ("set y = 1", True),
                               ("print a", True), ("swap y b", True)):
            for before, behind in ((["if a"], ["end"]), (["if a", "else"], ["end"]), (["while b"], ["end"]), (["repeat x"], ["end"]),
                                   (["if a", "if a", "else", "repeat x"], ["end", "end", "end"])):
                lines = ["while less(x, a)", *before, line, *behind, "set x = x + 1", "end"]
                depth, text = 0, []
                for word in lines:
                    depth -= word in ("end", "else")
                    text.append("  " * depth + word)
                    depth += word.split()[0] in ("if", "else", "while", "repeat")
                program = parse_program(text_of(*text, head="given a b\nvar x y\nproc p\nend"))
                self.check_addresses(program, counted, (1,) if expected else ())

    def test_a_procedure(self):
        program = parse_program("given a\nvar x\nproc p\n  if a\n    while less(x, a)\n      set x = x + 1\n    end\n  end\nend\nmain\n  call p\nend")
        address = program.entry("p") + 2
        self.check_addresses(program, counted, (address,))
        self.assertEqual(format_program(counted(program, address)), format_program(program).replace("while less(x, a)", "repeat a - x"))

    def test_long_numbers(self):
        number = 10**300 - 1
        program = program_of(f"while less(x, {number} * a - {number})", "  set x = x + 1", "end")
        self.assertEqual(lines_of(counted(program, 1))[0], f"repeat {number} * a - x - {number}")

    def test_equal_steps(self):
        rng = random.Random(38)
        found = ended = 0
        for _ in range(1500):
            program = counting_program(rng)
            if program is None:
                continue
            for (word, address), made in steps_of(program).items():
                if word == "count":
                    other = counted(program, address)
                    self.assertEqual(len(other.code), len(program.code))
                    ended += self.check_runs(rng, program, other)
                    found += 1
        self.assertGreater(min(found, ended), 100)

    def check_runs(self, rng, program, other):
        values, inputs = lively_start(rng, program)
        one, two = Machine(program, values, inputs), Machine(other, values, inputs)
        for _ in range(200):
            self.assertEqual((one.here, one.now, one.state, one.read_count, one.outputs),
                             (two.here, two.now, two.state, two.read_count, two.outputs))
            if one.is_done:
                return True
            try:
                one.forward()
            except RunError:
                with self.assertRaises(RunError):
                    two.forward()
                return False
            two.forward()
        return False


def counting_program(rng):
    """A random program with a loop that counts, or nearly so."""
    made = Lively(rng, 4, 2)
    name = rng.choice(made.names)
    bound = ("sum", rng.randrange(4), tuple((1, one) for one in sorted(made.names) if one != name and rng.randrange(3) == 0), 1)
    last = ("set", name, ("sum", 1, ((1, name),), 1))
    loop = ("while", ("less", ("sum", 0, ((1, name),), 1), bound), (*made.block(3)[:3], last))
    wrapped = rng.choice((loop, ("if", ("sum", 1, (), 1), (loop,), ()), ("repeat", ("sum", 2, (), 1), (loop,))))
    blocks = tuple((one, made.block(2)) for one in made.called)
    try:
        return Program(tuple(made.names[:1]), tuple(made.names[1:]), blocks, (*made.block(4), wrapped, *made.block(4)))
    except InvalidProgram:
        return None


def sunk_program(rng):
    """A random program in which something may be lifted."""
    program = sinking_program(rng)
    steps = [address for word, address in steps_of(program) if word == "sink"]
    return sunk(program, rng.choice(steps)) if len(program.code) < 120 else None


class StepsTest(Rewritten):
    """All steps that are possible, and no others, in random programs; they make what they should."""

    def test_random_programs(self):
        rng = random.Random(39)
        counts = dict.fromkeys(WORDS, 0)
        for _ in range(400):
            program = rng.choice((counting_program, lively_program, sunk_program))(rng)
            if program is None:
                continue
            found = steps_of(program)
            for word, call in WORDS.items():
                allowed = {address: made for (one, address), made in found.items() if one == word}
                good = [address for address, made in allowed.items() if made is not None]
                self.check_addresses(program, call, good, [address for address in allowed if address not in good])
                for address in good:
                    other = call(program, address)
                    self.assertEqual(other, allowed[address]())
                    self.assertEqual(rewritten(program, [(word, address)]), other)
                    counts[word] += 1
                    self.check_undone(program, word, address, other)
        self.assertGreater(min(counts.values()), 20)

    def check_undone(self, program, word, address, other):
        if word == "exchange":
            self.assertEqual(exchanged(other, address), program)
        elif word == "sink":
            back = [at for one, at in steps_of(other) if one == "lift" and lifted(other, at) == program]
            self.assertEqual(len(back), 1)
        elif word == "lift":
            back = [at for one, at in steps_of(other) if one == "sink" and sunk(other, at) == program]
            self.assertEqual(len(back), 1)


class SavingTest(Rewritten):
    def test_by_hand(self):
        # The old value of x is recorded, which is known behind each block.
        program = program_of("if read", "  set x = a", "end", "set x = 0")
        self.assertEqual(Analysis(program).recording, (2, 3, 4))
        self.assertEqual(saving(program, 4), (1, 1))
        self.assertEqual(saving(program=program, address=4), (1, 1))
        self.assertEqual(paying(program), (4,))
        # Only behind one of the blocks, in both orders.
        self.assertEqual(saving(program_of("if read", "  set x = read", "end", "set x = 0"), 4), (1, 0))
        self.assertEqual(saving(program_of("if read", "else", "  set x = read", "end", "set x = 0"), 4), (0, 1))
        # Nothing is known, or all of it, anyway.
        self.assertEqual(saving(program_of("set x = read", "if read", "end", "set x = 0"), 4), (0, 0))
        self.assertEqual(saving(program_of("if read", "  set x = a", "end", "set x = x + 1"), 4), (0, 0))

    def test_the_way_must_be_recorded_instead(self):
        # By x the ways are apart; when x is lost, the way is recorded in place of x.
        program = program_of("if a", "  set x = 1", "end", "set x = 0")
        self.assertEqual(Analysis(program).recording, (4,))
        self.assertEqual(Analysis(sunk(program, 4)).recording, (3, 5))
        self.assertEqual(saving(program, 4), (0, 0))
        self.assertEqual(paying(program), ())

    def test_errors_are_those_of_sunk(self):
        program = program_of("set x = 1", "if a", "end", "set x = 1", "while a", "end", "set x = 1")
        self.check_addresses(program, saving, (4,))

    def test_a_way_that_no_free_run_performs(self):
        endless = "given a b\nvar x y\nproc p\n  call p\nend"
        lines = ("if a", "  set x = read", "  call p", "else", "  set x = b", "end", "set x = 0")
        program = parse_program(text_of(*lines, head=endless))
        address = program.code.index(("set", "x", ("sum", 0, (), 1)))
        self.assertEqual(Analysis(program).decision(3), ("only", 0))
        self.assertEqual(saving(program, address), (0, 0))
        # Neither of the two ways.
        lines = ("if a", "  set x = 3", "  call p", "else", "  set x = read", "  call p", "end", "set x = 0")
        program = parse_program(text_of(*lines, head=endless))
        address = program.code.index(("set", "x", ("sum", 0, (), 1)))
        self.assertEqual(Analysis(program).decision(3), ("never",))
        self.assertEqual((saving(program, address), paying(program), thrifty(program)), ((0, 0), (), program))
        # A free expression behind ways that are never taken, and in a procedure that is never called.
        for lines, head in ((("call p", "if a", "end", "set x = read"), endless), (("print 1",), "given a b\nvar x y\nproc p\n  if a\n    set x = b\n"
                             "  end\n  set x = read\nend")):
            program = parse_program(text_of(*lines, head=head))
            address = program.code.index(("set", "x", ("read",)))
            self.assertEqual((saving(program, address), paying(program)), ((0, 0), ()))

    def by_analysis(self, program, address):
        """The saving by the recording addresses of both programs."""
        code, one, other = program.code, Analysis(program), Analysis(sunk(program, address))
        zero = address - 1
        (first,) = [at for at in range(address) if code[at] == ("go", address, 1)]
        found = []
        for place, moved in ((zero, zero + 1), (first, first)):
            before = (place in one.recording) + (address in one.recording)
            after = (moved in other.recording) + (moved + 1 in other.recording)
            found.append(before - after if len(one.space(place)) else 0)
        return tuple(found), (first, zero)

    def test_random_programs(self):
        rng = random.Random(40)
        seen = {}
        for _ in range(900):
            program = sinking_program(rng)
            addresses = sorted(at for word, at in steps_of(program) if word == "sink") if len(program.code) < 120 else []
            pays = []
            for address in addresses:
                found = saving(program, address)
                expected, ways = self.by_analysis(program, address)
                self.assertEqual(found, expected)
                self.assertIs(type(found), tuple)
                self.assertTrue(set(found) <= {0, 1})
                seen[found] = seen.get(found, 0) + 1
                pays += [address] if found != (0, 0) else []
                self.check_tapes(rng, program, address, found, ways)
            self.assertEqual(paying(program), tuple(pays))
        self.assertGreater(min(seen.get(pair, 0) for pair in ((0, 0), (0, 1), (1, 0), (1, 1))), 20)

    def check_tapes(self, rng, program, address, found, ways):
        """What the tape of a run that ends has less is what is saved each time."""
        values, inputs = lively_start(rng, program)
        machine = finished(program, values, inputs)
        if machine is None:
            return
        other = finished(sunk(program, address), values, inputs)
        self.assertEqual(results(other), results(machine))
        saved = 0
        for step in range(machine.now):
            machine.go(step)
            if machine.here in ways:
                saved += found[1 if machine.here == ways[0] else 0]
        machine.finish()
        self.assertEqual(len(machine.tape) - len(other.tape), saved)


def sinking_program(rng):
    """A random program with an `if` and a `set` directly behind it."""
    while True:
        made = Lively(rng, 3, 2)
        name = rng.choice(made.names)
        statement = rng.choice((("set", name, ("sum", rng.randrange(3), (), 1)), ("set", name, ("read",)), made.statement(8)))
        if statement[0] != "set":
            continue
        condition = rng.choice((("read",), ("sum", 0, ((1, rng.choice(made.names)),), 1)))
        body = (*made.block(4), ("if", condition, made.block(4), made.block(4)), statement, *made.block(4)[:2])
        wrapped = rng.choice((body, body, (("repeat", ("sum", 2, (), 1), body),)))
        blocks = tuple((one, rng.choice((made.block(4), (("call", one),)))) for one in made.called)
        split = rng.randrange(len(made.names) + 1)
        try:
            return Program(tuple(made.names[:split]), tuple(made.names[split:]), blocks, wrapped)
        except InvalidProgram:
            pass


class ThriftyTest(unittest.TestCase):
    def test_by_hand(self):
        program = program_of("if read", "  set x = a", "end", "set x = 0", "set y = 3")
        self.assertEqual(lines_of(thrifty(program=program)),
                         ["if read", "  set x = a", "  set x = 0", "else", "  set x = 0", "end", "set y = 3"])
        same = program_of("set x = 2", "print x")
        self.assertEqual((thrifty(same), paying(same), paying(program=same)), (same, (), ()))

    def test_into_inner_blocks(self):
        program = program_of("if read", "  if read", "    set x = a", "  else", "    set x = b", "  end", "end", "set x = 0")
        other = thrifty(program)
        self.assertEqual(lines_of(other), ["if read", "  if read", "    set x = a", "    set x = 0", "  else", "    set x = b", "    set x = 0",
                                           "  end", "else", "  set x = 0", "end"])
        self.assertEqual(paying(other), ())

    def test_by_its_definition(self):
        rng = random.Random(41)
        changed = 0
        for _ in range(250):
            program = sinking_program(rng)
            other = program
            while paying(other):
                other = sunk(other, paying(other)[0])
            self.assertEqual(thrifty(program), other)
            changed += other != program
            for _ in range(2):
                values, inputs = lively_start(rng, program)
                one, two = finished(program, values, inputs), finished(other, values, inputs)
                self.assertEqual(results(one), results(two))
                if one is not None:
                    self.assertLessEqual(len(two.tape), len(one.tape))
                    self.assertEqual((two.now, two.full_length), (one.now, one.full_length))
        self.assertGreater(changed, 60)

    def test_up_to_120_instructions(self):
        # Each sinking makes the program longer by one; there is room for some of them only.
        lines = ["if read", "  set x = a", "end", "set x = 0"]
        for size, room in ((116, 3), (119, 1), (120, 0)):
            free = size - 1 - 5 * 4
            program = program_of(*lines * 4, *["print 1"] * free)
            self.assertEqual(len(program.code), size)
            other = thrifty(program)
            self.assertEqual(len(other.code), min(size + 4, 120))
            self.assertEqual(len(paying(program)), 0 if size == 120 else 4)
            expected = program
            for _ in range(4 if size == 116 else room):
                expected = sunk(expected, paying(expected)[0])
            self.assertEqual(other, expected)


class RewrittenTest(unittest.TestCase):
    LINES = ("set x = 1", "set y = read", "if a", "end", "set b = 0", "while less(x, a)", "  set x = x + 1", "end")

    def setUp(self):
        self.program = program_of(*self.LINES)

    def test_steps_in_order(self):
        steps = [("exchange", 0), ("sink", 5), ("count", 8), ("exchange", 0), ("lift", 2)]
        expected = counted(self.program, 7)
        for made in (steps, tuple(steps)):
            self.assertEqual(rewritten(program=self.program, steps=made), expected)
        self.assertEqual(rewritten(self.program, steps[:1]), exchanged(self.program, 0))
        self.assertEqual(rewritten(self.program, []), self.program)
        self.assertEqual(rewritten(self.program, ()), self.program)
        # After the sinking the loop has moved by one.
        self.assertEqual(rewritten(self.program, [("count", 7)]), expected)
        with self.assertRaises(InvalidSteps) as caught:
            rewritten(self.program, [("sink", 5), ("count", 7)])
        self.assertEqual(caught.exception.position, 1)

    def test_what_is_no_list(self):
        for wrong in (None, 1, "sink", {}, {("sink", 5): 1}, range(2), "", b"", set()):
            with self.assertRaises(InvalidSteps) as caught:
                rewritten(self.program, wrong)
            self.assertIsNone(caught.exception.position)

    def test_wrong_steps(self):
        good = ("exchange", 0)
        for wrong in (None, 1, "sink", ["sink", 5], ("sink",), ("sink", 5, 5), (), ("sinks", 5), ("Sink", 5), (None, 5), (["sink"], 5), ({}, 5),
                      (5, "sink"), ("sink", 4), ("sink", None), ("sink", True), ("sink", "5"), ("sink", [5]), ("sink", -1), ("sink", 10**40),
                      ("exchange", 1), ("exchange", 5), ("lift", 2), ("lift", 7), ("count", 6), ("count", 2), ("", 5), (b"sink", 5),
                      ("exchange", 2), ("count", 7.0), (("sink",), 5)):
            for steps, position in (([wrong], 0), ([good, wrong, None], 1), ((good, good, wrong), 2)):
                with self.assertRaises(InvalidSteps) as caught:
                    rewritten(self.program, steps)
                self.assertEqual(caught.exception.position, position)

    def test_dependent_statements(self):
        program = program_of("set x = 1", "set y = x")
        with self.assertRaises(InvalidSteps) as caught:
            rewritten(program, [("exchange", 0)])
        self.assertEqual(caught.exception.position, 0)

    def test_arguments_stay(self):
        steps = [("exchange", 0), ("exchange", 0)]
        rewritten(self.program, steps)
        self.assertEqual(steps, [("exchange", 0), ("exchange", 0)])
        self.assertEqual(lines_of(self.program), list(self.LINES))
        self.assertEqual(rewriting.rewritten(self.program, steps), self.program)

    def test_random_steps(self):
        rng = random.Random(42)
        long = 0
        for _ in range(150):
            program = counting_program(rng)
            if program is None:
                continue
            steps, other = [], program
            for _ in range(8):
                possible = [step for step, made in steps_of(other).items() if made is not None]
                if possible and len(other.code) < 120:
                    steps.append(rng.choice(possible))
                    other = steps_of(other)[steps[-1]]()
            self.assertEqual(rewritten(program, steps), other)
            values, inputs = lively_start(rng, program)
            self.assertEqual(results(finished(program, values, inputs)), results(finished(other, values, inputs)))
            long += len(steps) == 8
        self.assertGreater(long, 30)


if __name__ == "__main__":
    unittest.main()
