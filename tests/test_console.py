import random
import re
import time
import unittest

from frugaltape.analysis import Analysis
from frugaltape.console import Console
from frugaltape.errors import (
    AtEnd, AtStart, Busy, InvalidCount, InvalidLine, NoInput, NoMachine, ParseError, RunError, StepLimit, Unfitting, UnknownName,
)
from frugaltape.machine import Machine
from frugaltape.questions import last_write
from frugaltape.renaming import format_machine
from frugaltape.reversing import reversed_inputs, reversed_program
from frugaltape.texts import format_program, parse_program
from samples import lively_program, lively_start
from test_machine import EXAMPLE

EXAMPLE_TEXT = "given a|var x|main|  set x = 2 * a + 1|  set a = read|end"
LOAD = f"load {EXAMPLE_TEXT} ; 5 ; 7"
LOOP = "load given a|var x|main|  while a|    set a = a - 1|    set x = read|    print x|  end|end ; 2 ; 8 9 10"
BIG = 10**35
SHORT, LONG = "9" * 300, "1" + "0" * 300


def loaded(line):
    console = Console()
    console.run(line)
    return console


class ConsoleTest(unittest.TestCase):
    def refuse(self, console, *lines, error=InvalidLine, loaded=True):
        """None of the lines is accepted, and the machine stays as it is."""
        for line in lines:
            before = console.run("show") if loaded else None
            with self.assertRaises(error, msg=line) as caught:
                console.run(line)
            self.assertIs(type(caught.exception), error, line)
            if before is not None:
                self.assertEqual(console.run("show"), before)
        return caught.exception


class LoadTest(ConsoleTest):
    def test_ok(self):
        console = Console()
        self.assertEqual(console.run(line=LOAD), "ok")
        self.assertEqual(console.run("show"), "step 0 at 0 a=5 x=0 tape 0 of 0")
        self.assertEqual(console.run("finish"), "step 2 at 2 a=7 x=11 tape 0 of 2 done")
        # Another machine takes its place.
        self.assertEqual(console.run(f"load {EXAMPLE_TEXT} ; -6 ; 0 1 2"), "ok")
        self.assertEqual(console.run("finish"), "step 2 at 2 a=0 x=-11 tape 0 of 2 done")

    def test_empty_lists(self):
        console = Console()
        self.assertEqual(console.run(f"load {EXAMPLE_TEXT} ; 5 ; "), "ok")
        self.refuse(console, "finish", error=NoInput)
        self.assertEqual(console.run("load var x|main|  set x = read|end ;  ; 4"), "ok")
        self.assertEqual(console.run("finish"), "step 1 at 1 x=4 tape 0 of 1 done")
        self.assertEqual(console.run("load var x|main|end ;  ; "), "ok")
        self.assertEqual(console.run("show"), "step 0 at 0 x=0 tape 0 of 0 done")

    def test_given_values_in_order(self):
        console = loaded("load given b a|var x|main|  set x = read|  set x = read|end ; 3 -4 ; -5 60")
        self.assertEqual(console.run("show"), "step 0 at 0 b=3 a=-4 x=0 tape 0 of 0")
        self.assertEqual(console.run("finish"), "step 2 at 2 b=3 a=-4 x=60 tape 1 of 2 done")

    def test_wrong_loads(self):
        text = EXAMPLE_TEXT
        console = loaded(LOOP)
        self.refuse(
            console, "load", "load ", "load  ; ", "load  ;  ; ", f"load {text}", f"load {text} ; 5", f"load {text} ; 5 ;", f"load {text} ; 5; 7",
            f"load {text} ;5 ; 7", f"load {text}; 5 ; 7", f"load {text} ; 5 ;7", f"load {text} ; 5 ; 7 ; ", f"load {text} ; 5 ; 7 ; 8",
            f"load {text} ;  ; 7", f"load {text} ; ; 7", f"load {text} ; 5 6 ; 7", f"load {text} ; 5  ; 7", f"load {text} ;  5 ; 7",
            f"load {text} ; 5 ;  7", f"load {text} ; 5 ; 7 ", f"load {text} ; 5 ; 7  8", f"load {text} ; 5 ;   ", f"load {text} ; 5 ;  ",
            f"load {text} ; x ; 7", f"load {text} ; 5 ; x", f"load {text} ; +5 ; 7", f"load {text} ; 05 ; 7", f"load {text} ; -0 ; 7",
            f"load {text} ; 5.0 ; 7", f"load {text} ; 5 ; 7,8", f"load {text} ; 5 ; 1_0", f"load {text} ; 5 ; --7", f"load {text} ; 5 ; -",
            f"load  {text} ; 5 ; 7", f" load {text} ; 5 ; 7", f"Load {text} ; 5 ; 7", f"loads {text} ; 5 ; 7", f"load\t{text} ; 5 ; 7",
            f"load {text}| ; 5 ; 7", f"load |{text} ; 5 ; 7", f"load {text[1:]} ; 5 ; 7", f"load {text} x ; 5 ; 7", "load main|end ;  ; ",
            f"load {format_program(EXAMPLE)} ; 5 ; 7", f"load {text} ; 5 ; 7\n", f"load {text.replace('|', ' ')} ; 5 ; 7",
            f"load {text.replace('2 * a', 'a * 2')} ; 5 ; 7", f"load {text} ; \u0665 ; 7", f"load {text} ; 5 ; \u00b2", f"load {text} ; 5 ; 7\t8",
            f"load {text} ; 5 7", "load ; 5 ; 7", f"load {text} ; 5 ; 7\r", f"load {text.replace('given a', 'given set')} ; 5 ; 7",
            f"load {text} ; 5 ; ; ", f"load {text} ; 5 ;  ; ",
        )
        self.assertEqual(console.run("finish"), "step 12 at 6 a=0 x=9 tape 5 of 7 done")

    def test_a_character_changed_left_out_or_put_in(self):
        number = "(?:0|-?[1-9][0-9]*)"
        form = re.compile(f"load ([^;\n]*) ; ((?:{number}(?: {number})*)?) ; ((?:{number}(?: {number})*)?)")
        line = "load given a b|main|  print a|end ; 5 -6 ; 7 80"
        accepted = 0
        for at in range(len(line) + 1):
            for letter in ("", "0", "7", "-", "x", " ", ";", "|", "\n", " ; "):
                for other in (line[:at] + letter + line[at:], line[:at] + letter + line[at + 1:]):
                    machine = self.described(form.fullmatch(other))
                    console = Console()
                    if machine is None:
                        self.refuse(console, other, error=InvalidLine, loaded=False)
                    else:
                        self.assertEqual(console.run(other), "ok")
                        self.assertEqual(console.run("show"), format_machine(machine))
                        accepted += other != line
        self.assertGreater(accepted, 20)

    def described(self, found):
        """The machine of the parts of a line, or None."""
        if found is None:
            return None
        text, values, inputs = found.groups()
        try:
            program = parse_program(text.replace("|", "\n"))
        except ParseError:
            return None
        values, inputs = [[int(word) for word in part.split()] for part in (values, inputs)]
        if len(values) != len(program.given):
            return None
        return Machine(program, dict(zip(program.given, values)), inputs)

    def test_long_numbers(self):
        console = loaded(LOAD)
        for number in (SHORT, "-" + SHORT):
            self.assertEqual(console.run(f"load {EXAMPLE_TEXT} ; {number} ; {number}"), "ok")
            self.assertEqual(console.run("show"), f"step 0 at 0 a={number} x=0 tape 0 of 0")
        for number in (LONG, "-" + LONG, "9" * 5000):
            self.refuse(console, f"load {EXAMPLE_TEXT} ; {number} ; 7", f"load {EXAMPLE_TEXT} ; 5 ; 7 {number}", f"forward {number}",
                        f"edit a {number}", f"load {EXAMPLE_TEXT.replace('2', number)} ; 5 ; 7")

    def test_a_load_that_fails_keeps_the_machine(self):
        console = loaded(LOOP)
        console.run("forward 7")
        self.refuse(console, f"load {EXAMPLE_TEXT} ; 5 ; 7 x", f"load {EXAMPLE_TEXT} ;  ; 7")
        self.assertEqual(console.run("show"), "step 7 at 2 a=1 x=8 tape 3 of 4")


class AheadOfLoadTest(ConsoleTest):
    def test_no_machine(self):
        console = Console()
        self.refuse(console, "forward 1", "back 0", "go 5", "go -5", "finish", "edit a 5", "edit nothing -5", "show", "tape", "equations",
                    "decisions", "reverse", "write a", "write ;", error=NoMachine, loaded=False)

    def test_wrong_lines_first(self):
        console = Console()
        for line in ("forward", "forward x", "", "shows", "edit a", "edit a b", None, f"load {EXAMPLE_TEXT}", "show\n", f"go {LONG}"):
            with self.assertRaises(InvalidLine):
                console.run(line)
        self.refuse(console, "show", error=NoMachine, loaded=False)
        self.assertEqual(console.run(LOAD), "ok")

    def test_two_consoles(self):
        one, other = Console(), Console()
        one.run(LOAD)
        self.refuse(other, "show", error=NoMachine, loaded=False)


class MoveTest(ConsoleTest):
    def test_moves(self):
        console = loaded(LOOP)
        program = parse_program(LOOP.removeprefix("load ").split(" ; ")[0].replace("|", "\n"))
        machine = Machine(program, {"a": 2}, [8, 9, 10])
        for line, call in (("forward 4", lambda: machine.forward(4)), ("back 3", lambda: machine.back(3)), ("go 9", lambda: machine.go(9)),
                           ("go 9", lambda: None), ("forward 0", lambda: None), ("go 2", lambda: machine.go(2)), ("back 0", lambda: None),
                           ("finish", lambda: machine.finish()), ("finish", lambda: None), ("back 12", lambda: machine.go(0))):
            call()
            self.assertEqual(console.run(line), format_machine(machine))
            self.assertEqual(console.run("show"), format_machine(machine))

    def test_errors_of_moves(self):
        console = loaded(LOOP)
        console.run("forward 7")
        for line in ("forward -1", "back -1", "go -1", f"go -{SHORT}"):
            self.assertEqual(self.refuse(console, line, error=InvalidCount).value, int(line.split()[1]))
        for line in ("forward 6", "go 13", f"go {SHORT}"):
            self.assertEqual(self.refuse(console, line, error=AtEnd).step, 12)
        self.refuse(console, "back 8", f"back {BIG}", error=AtStart)
        console.run(f"load {EXAMPLE_TEXT} ; 5 ; ")
        self.assertEqual(self.refuse(console, "forward 2", "finish", "go 2", error=NoInput).address, 1)
        console.run("load var x|main|  while 1|  end|end ;  ; ")
        self.assertEqual(self.refuse(console, "finish", error=StepLimit).limit, 10000)

    def test_great_numbers(self):
        start = time.process_time()
        console = loaded(f"load given a|var x|main|  repeat a|    set x = x + 1|  end|end ; {BIG} ; ")
        self.assertEqual(console.run(f"forward {3 * BIG + 2}"), f"step {3 * BIG + 2} at 4 a={BIG} x={BIG} tape 0 of {BIG + 1} done")
        self.assertEqual(console.run(f"go {3 * BIG - 2}"), f"step {3 * BIG - 2} at 1 a={BIG} x={BIG - 1} tape 0 of {BIG - 1}")
        self.assertEqual(console.run("write x"), f"{3 * BIG - 4} 2")
        self.assertLess(time.process_time() - start, 5)


class EditTest(ConsoleTest):
    def test_edits(self):
        console = loaded(LOOP)
        self.assertEqual(console.run("edit a 1"), "step 1 at 0 a=1 x=0 tape 0 of 0")
        self.assertEqual(console.run("finish"), "step 8 at 6 a=0 x=8 tape 3 of 4 done")
        self.assertEqual(console.run("edit x -3"), "step 9 at 6 a=0 x=-3 tape 3 of 4 done")
        self.assertEqual(console.run("back 9"), "step 0 at 0 a=2 x=0 tape 0 of 0")
        self.assertEqual(console.run("finish"), "step 12 at 6 a=0 x=9 tape 5 of 7 done")

    def test_errors_of_edits(self):
        console = loaded(LOAD)
        for name in ("y", "A", ";", "5", "-", "a=", "\t", "ax", "main", "|"):
            self.assertEqual(self.refuse(console, f"edit {name} 5", error=UnknownName).name, name)
        console.run("forward 1")
        self.assertEqual(self.refuse(console, "edit x 12", error=Unfitting).equation, (2, -1, 1))
        console.run("load given a|var x|main|  repeat a|    print x|  end|end ; 5 ; ")
        console.run("forward 3")
        self.assertEqual(self.refuse(console, "edit x 12", error=Busy).depth, 1)


class TellingTest(ConsoleTest):
    def test_tape(self):
        console = loaded("load given a|var x|main|  set x = read|  set x = read|  set x = 3|  set a = 1|end ; -7 ; 8 -9")
        found = [console.run("tape")]
        for _ in range(4):
            console.run("forward 1")
            found.append(console.run("tape"))
        self.assertEqual(found, ["-", "-", "8", "8 -9", "8 -9 -7"])

    def test_equations(self):
        console = loaded(LOAD)
        self.assertEqual(console.run("equations"), "0,1,0")
        console.run("forward 1")
        self.assertEqual(console.run("equations"), "2,-1,1")
        console.run("forward 1")
        self.assertEqual(console.run("equations"), "-")
        console.run("load var a x|main|  set x = 3|end ;  ; ")
        self.assertEqual(console.run("equations"), "1,0,0 0,1,0")
        console.run("finish")
        self.assertEqual(console.run("equations"), "1,0,0 0,1,-3")

    def test_decisions(self):
        console = loaded(LOAD)
        self.assertEqual(console.run("decisions"), "-")
        console.run("load given a|var x|main|  if read|  end|  set x = read|  set a = 1|  set x = 2|end ; 5 ; 6")
        self.assertEqual(console.run("decisions"), "1 2 4 5")

    def test_reverse(self):
        console = loaded(LOAD)
        self.assertEqual(console.run("reverse"), "given a x|main|  set a = (x - 1) / 2|  set x = 0|end")
        console.run("finish")
        self.assertEqual(console.run("reverse"), "given a x|main|  set a = (x - 1) / 2|  set x = 0|end")
        self.assertEqual(console.run("show"), "step 2 at 2 a=7 x=11 tape 0 of 2 done")

    def test_write(self):
        console = loaded(LOOP)
        self.assertEqual(console.run("write x"), "-")
        console.run("finish")
        self.assertEqual(console.run("write x"), "8 3")
        self.assertEqual(console.run("write a"), "7 2")
        for name in ("y", "X", ";", "5"):
            self.assertEqual(self.refuse(console, f"write {name}", error=UnknownName).name, name)

    def test_a_reversed_program_is_loaded_again(self):
        console = loaded(LOOP)
        end = console.run("finish")
        tape = console.run("tape").split(" ")[::-1]
        text = console.run("reverse")
        self.assertEqual(end, "step 12 at 6 a=0 x=9 tape 5 of 7 done")
        self.assertEqual(console.run(f"load {text} ; 0 9 ; {' '.join(tape)}"), "ok")
        self.assertTrue(console.run("finish").startswith("step "))
        self.assertIn(" a=2 x=0 ", console.run("show"))


class LineTest(ConsoleTest):
    LINES = ("forward 3", "back 2", "go 7", "finish", "edit a 5", "show", "tape", "equations", "decisions", "reverse", "write x")

    def test_other_objects(self):
        console = loaded(LOOP)
        self.refuse(console, None, 0, True, b"show", ["show"], ("show",), {}, "", " ", "\n", "|", ";", " ; ", "  ")

    def test_words_too_many_too_few_and_other_spaces(self):
        console = loaded(LOOP)
        for line in self.LINES:
            words = line.split(" ")
            self.refuse(console, line + " ", " " + line, line + "\n", "\n" + line, line + " 1", line + " x y", line + "  ", line + "\t 1",
                        line.replace(words[0], words[0].title()), line.replace(words[0], words[0] + "s"), line.replace(words[0], words[0][1:]))
            if len(words) > 1:
                self.refuse(console, line.replace(" ", "  "), line.replace(" ", "\t"), line.replace(" ", "\n"), " ".join(words[:-1]),
                            line.replace(" ", ""), " ".join(words[:-1]) + " ")

    def test_a_character_changed_left_out_or_put_in(self):
        """What is made of a line by changing one character is a line only if it has the form of one."""
        for line in self.LINES:
            for at in range(len(line) + 1):
                for letter in ("", "0", "7", "-", "x", " ", ";", "\n", "+", "_", "."):
                    for other in (line[:at] + letter + line[at:], line[:at] + letter + line[at + 1:]):
                        console = loaded(LOOP)
                        before = console.run("show")
                        if self.is_line(other):
                            try:
                                self.assertIs(type(console.run(other)), str)
                            except (AtEnd, AtStart, InvalidCount, Unfitting, UnknownName) as error:
                                self.assertNotIsInstance(error, InvalidLine)
                        else:
                            with self.assertRaises(InvalidLine, msg=other):
                                console.run(other)
                            self.assertEqual(console.run("show"), before)

    def is_line(self, line):
        word, *rest = line.split(" ")
        if "\n" in line or "" in rest:
            return False
        if word in ("forward", "back", "go"):
            return len(rest) == 1 and self.is_number(rest[0])
        if word == "edit":
            return len(rest) == 2 and self.is_number(rest[1])
        if word == "write":
            return len(rest) == 1
        return word in ("finish", "show", "tape", "equations", "decisions", "reverse") and not rest

    def is_number(self, word):
        try:
            return str(int(word)) == word
        except ValueError:
            return False

    def test_wrong_numbers(self):
        console = loaded(LOOP)
        for number in ("x", "+1", "01", "-0", "00", "1.0", "1e3", "", "-", "--1", "1_0", "0x1", "\u0661", "\u00b2", "1-", "a", "'1'",
                       LONG, "-" + LONG):
            self.refuse(console, f"forward {number}", f"back {number}", f"go {number}", f"edit a {number}")

    def test_results_are_texts(self):
        console = loaded(LOOP)
        console.run("forward 5")
        for line in self.LINES:
            self.assertIs(type(console.run(line) if line != "edit a 5" else ""), str)


class RandomTest(ConsoleTest):
    def test_random_lines(self):
        rng = random.Random(49)
        for _ in range(60):
            program = lively_program(rng)
            values, inputs = lively_start(rng, program)
            text = format_program(program).replace("\n", "|")
            lists = [" ".join(map(str, numbers)) for numbers in ([values[name] for name in program.given], inputs)]
            console = Console()
            self.assertEqual(console.run(f"load {text} ; {lists[0]} ; {lists[1]}"), "ok")
            machine = Machine(program, values, inputs)
            for _ in range(25):
                self.line(rng, console, machine)
            self.check(console, machine)

    def line(self, rng, console, machine):
        word = rng.choice(("forward", "forward", "back", "go", "finish", "edit"))
        number = rng.randrange(-1, 12)
        name = rng.choice(machine.program.names)
        line = {"finish": "finish", "edit": f"edit {name} {number}"}.get(word, f"{word} {number}")
        try:
            {"edit": lambda: machine.edit(name, number), "finish": machine.finish}.get(word, lambda: getattr(machine, word)(number))()
        except (RunError, AtEnd, AtStart, InvalidCount, StepLimit, Busy, Unfitting) as error:
            self.refuse(console, line, error=type(error))
        else:
            self.assertEqual(console.run(line), format_machine(machine))

    def check(self, console, machine):
        program = machine.program
        analysis = Analysis(program)
        self.assertEqual(console.run("tape"), " ".join(map(str, machine.tape)) or "-")
        equations = [",".join(map(str, equation)) for equation in analysis.equations(machine.here)]
        self.assertEqual(console.run("equations"), " ".join(equations) or "-")
        self.assertEqual(console.run("decisions"), " ".join(map(str, analysis.recording)) or "-")
        self.assertEqual(console.run("reverse"), format_program(reversed_program(program)).replace("\n", "|"))
        for name in program.names:
            found = last_write(machine, name)
            self.assertEqual(console.run(f"write {name}"), "-" if found is None else "{} {}".format(*found))
        self.assertEqual(reversed_inputs(machine), list(machine.tape)[::-1])


if __name__ == "__main__":
    unittest.main()
