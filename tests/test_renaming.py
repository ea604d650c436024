import random
import unittest
from collections import OrderedDict, defaultdict
from types import MappingProxyType

from frugaltape.analysis import Analysis
from frugaltape.errors import InvalidNames, RunError
from frugaltape.machine import Machine
from frugaltape.programs import Program
from frugaltape.renaming import format_machine, renamed
from frugaltape.running import execute
from frugaltape.texts import format_program, parse_program
from samples import SAMPLE, lively_program, lively_start, random_parts, text_of
from test_machine import EXAMPLE, facts, machine_of


def random_names(rng, program):
    """New names for a program; some of them are old ones."""
    pool = list(dict.fromkeys([*program.names, "n", "m", "zz", "abcdefgh", "p", "q"]))
    return dict(zip(program.names, rng.sample(pool, len(program.names))))


class RenamedTest(unittest.TestCase):
    def test_by_hand(self):
        program = parse_program(SAMPLE)
        names = {"a": "z", "b": "y", "x": "a", "y": "p"}
        expected = """\
given z y
var a p
proc p
  set a = (-a + 3) / 2
  call q
end
proc q
end
main
  set a = 2 * z + 1
  swap z p
  print read
  if less(z, -2 * y - 7)
    repeat (3 * z) / 4
      print product((z + 1) / 2, a)
      call p
    end
  else
    while same(0, p)
      set p = quotient(a, 5)
    end
  end
  if 12
  end
  while 1
  end
  repeat -a
    set y = remainder(-y, 2 * a)
  end
end"""
        self.assertEqual(format_program(renamed(program, names)), expected)
        self.assertEqual(format_program(renamed(program=program, names=names)), expected)

    def test_exchanged_names(self):
        program = parse_program(text_of("set x = 2 * a - 3 * x + 5", "swap a x", head="given a\nvar x"))
        other = renamed(program, {"a": "x", "x": "a"})
        self.assertEqual(format_program(other), text_of("set a = -3 * a + 2 * x + 5", "swap x a", head="given x\nvar a"))
        self.assertEqual(renamed(other, {"a": "x", "x": "a"}), program)

    def test_names_that_stay(self):
        program = parse_program(SAMPLE)
        self.assertEqual(renamed(program, {name: name for name in "abxy"}), program)

    def test_names_of_procedures_stay(self):
        program = parse_program("given a\nproc a\n  set a = a + 1\n  call p\nend\nproc p\n  call a\nend\nmain\n  call a\nend")
        other = renamed(program, {"a": "p"})
        self.assertEqual(format_program(other), "given p\nproc a\n  set p = p + 1\n  call p\nend\nproc p\n  call a\nend\nmain\n  call a\nend")

    def test_terms_are_sorted_again(self):
        program = parse_program(text_of("print same(a + 2 * b + 3 * c + 4 * d, -a - b)", head="given a b c d"))
        other = renamed(program, {"a": "d", "b": "b", "c": "zz", "d": "a"})
        self.assertEqual(format_program(other), text_of("print same(4 * a + 2 * b + d + 3 * zz, -b - d)", head="given d b zz a"))

    def test_dicts_of_other_kinds(self):
        names = OrderedDict(x="n", a="m")
        self.assertEqual(renamed(EXAMPLE, names), renamed(EXAMPLE, {"a": "m", "x": "n"}))
        self.assertEqual(renamed(EXAMPLE, defaultdict(str, names)), renamed(EXAMPLE, names))
        self.assertEqual(names, {"a": "m", "x": "n"})
        for wrong in (defaultdict(lambda: "b", a="m"), MappingProxyType({"a": "m", "x": "n"})):
            with self.assertRaises(InvalidNames) as caught:
                renamed(EXAMPLE, wrong)
            self.assertIs(caught.exception.value, wrong)

    def test_wrong_names(self):
        for wrong in (None, 1, "ax", [("a", "b"), ("x", "y")], ("a", "x"), {}, {"a": "b"}, {"a": "b", "x": "b"}, {"a": "x"}, {"x": "a"},
                      {"a": "b", "x": "y", "z": "c"}, {"a": "b", "y": "x"}, {"a": "b", "x": "set"}, {"a": "b", "x": "main"}, {"a": "b", "x": ""},
                      {"a": "b", "x": "abcdefghi"}, {"a": "b", "x": "X"}, {"a": "b", "x": "x1"}, {"a": "b", "x": None}, {"a": "b", "x": ["y"]},
                      {"a": "b", "x": 5}, {"a": "b", "x": ("y",)}, {"a": "b", 5: "x"}, {"a": "b", None: "x"}, {"a": "b", "x": "e\n"},
                      {"a": "b", "x": b"y"}, {"a": "b", "x": "\u00e9"}, {"a": "a", "x": "a"}, {"a", "x"}):
            with self.assertRaises(InvalidNames) as caught:
                renamed(EXAMPLE, wrong)
            self.assertIs(caught.exception.value, wrong)

    def test_random_programs_there_and_back(self):
        rng = random.Random(47)
        made = 0
        while made < 200:
            try:
                program = Program(*random_parts(rng))
            except ValueError:
                continue
            names = random_names(rng, program)
            other = renamed(program, names)
            self.assertEqual(renamed(other, {new: old for old, new in names.items()}), program)
            self.assertEqual(parse_program(format_program(other)), other)
            self.assertEqual(other.names, tuple(names[name] for name in program.names))
            self.assertEqual([name for name, _ in other.procedures], [name for name, _ in program.procedures])
            made += 1

    def renamed_decision(self, decision, names):
        if decision is None or decision[0] not in ("given", "apart"):
            return decision
        word, (_, constant, terms, divisor) = decision
        changed = sorted(((names[name], factor) for factor, name in terms))
        return (word, ("sum", constant, tuple((factor, name) for name, factor in changed), divisor))

    def test_spaces_decisions_and_runs(self):
        rng = random.Random(48)
        for _ in range(100):
            program = lively_program(rng)
            names = random_names(rng, program)
            other = renamed(program, names)
            one, two = Analysis(program), Analysis(other)
            self.assertEqual(two.recording, one.recording)
            for address in range(len(program.code)):
                self.assertEqual(two.space(address), one.space(address))
                self.assertEqual(two.open_space(address), one.open_space(address))
                self.assertEqual(two.decision(address), self.renamed_decision(one.decision(address), names))
            values, inputs = lively_start(rng, program)
            self.check_runs(Machine(program, values, inputs),
                            Machine(other, {names[name]: value for name, value in values.items()}, inputs), names)

    def check_runs(self, one, two, names):
        for _ in range(100):
            self.assertEqual(two.state, {names[name]: value for name, value in one.state.items()})
            told, other = facts(one), facts(two)
            self.assertEqual(other[1:3] + other[4:], told[1:3] + told[4:])
            try:
                one.forward()
            except (RunError, IndexError) as error:
                with self.assertRaises(type(error)):
                    two.forward()
                break
            two.forward()
        two.go(0)
        one.go(0)
        self.assertEqual(two.state, {names[name]: value for name, value in one.state.items()})

    def test_executed(self):
        other = renamed(EXAMPLE, {"a": "x", "x": "a"})
        self.assertEqual(execute(other, {"x": 5}, [7]), ({"x": 7, "a": 11}, (), 2))


class FormatMachineTest(unittest.TestCase):
    def test_examples(self):
        machine = Machine(EXAMPLE, {"a": 5}, [7])
        self.assertEqual(format_machine(machine), "step 0 at 0 a=5 x=0 tape 0 of 0")
        machine.forward()
        self.assertEqual(format_machine(machine=machine), "step 1 at 1 a=5 x=11 tape 0 of 1")
        machine.forward()
        self.assertEqual(format_machine(machine), "step 2 at 2 a=7 x=11 tape 0 of 2 done")
        machine.edit("a", -4)
        self.assertEqual(format_machine(machine), "step 3 at 2 a=-4 x=11 tape 0 of 2 done")

    def test_names_in_order(self):
        program = parse_program("given y b\nvar a\nmain\n  set a = 1\n  set b = read\nend")
        machine = Machine(program, {"b": 2, "y": -3}, [4])
        machine.forward(2)
        self.assertEqual(format_machine(machine), "step 2 at 2 y=-3 b=4 a=1 tape 1 of 2 done")

    def test_done_at_once(self):
        self.assertEqual(format_machine(Machine(parse_program("var x\nmain\nend"), {})), "step 0 at 0 x=0 tape 0 of 0 done")

    def test_great_numbers(self):
        machine = machine_of("repeat a", "  set x = x + 1", "end", values={"a": 10**35})
        machine.forward(10**35)
        self.assertEqual(format_machine(machine), f"step {10**35} at 1 a={10**35} x={(10**35 - 1) // 3} tape 0 of {(10**35 - 1) // 3}")
        machine = machine_of("print a", values={"a": -(10**3999)})
        self.assertEqual(format_machine(machine), f"step 0 at 0 a={-(10**3999)} x=0 tape 0 of 0")

    def test_the_machine_stays(self):
        machine = Machine(EXAMPLE, {"a": 5}, [7])
        machine.forward()
        before = facts(machine)
        format_machine(machine)
        self.assertEqual(facts(machine), before)


if __name__ == "__main__":
    unittest.main()
