import random
import time
import unittest

from frugaltape.errors import (
    AtEnd, Edited, InvalidCount, InvalidInputs, InvalidPieces, InvalidProgram, InvalidValues, NoInput, RunError,
)
from frugaltape.journal import Journal, recover
from frugaltape.machine import Machine
from frugaltape.texts import parse_program
from samples import lively_program, lively_start, text_of
from test_machine import COUNTDOWN, EXAMPLE, facts, machine_of

BIG = 10**35
ENDLESS = parse_program(text_of("while 1", "  set a = read", "  set x = x + 1", "  set a = quotient(a, 2)", "end", head="given a\nvar x"))
WRONG_COUNTS = (-1, True, False, None, "1", 1.0, [1], -BIG)


def logged(program, values, inputs, *counts):
    """The pieces that are written after so many steps each, and the machines at these times."""
    journal = Journal(Machine(program, values, inputs))
    pieces, machines = [], []
    for count in counts:
        journal.advance(count)
        pieces.append(journal.write())
        machines.append(journal.snapshot())
    return pieces, machines


class JournalTest(unittest.TestCase):
    def test_at_first(self):
        machine = Machine(COUNTDOWN, {"a": 3}, [4, 5, 6])
        machine.forward(3)
        journal = Journal(machine=machine)
        self.assertEqual(journal.snapshot(), machine)
        machine.back()
        self.assertEqual(journal.snapshot().now, 3)
        journal.snapshot().forward()
        self.assertEqual(journal.snapshot().now, 3)

    def test_advance(self):
        machine = Machine(COUNTDOWN, {"a": 3}, [4, 5, 6])
        journal = Journal(machine)
        self.assertIsNone(journal.advance())
        self.assertIsNone(journal.advance(4))
        journal.advance(count=0)
        machine.forward(5)
        self.assertEqual(facts(journal.snapshot()), facts(machine))

    def test_errors_of_advance(self):
        journal = Journal(Machine(COUNTDOWN, {"a": 1}, [4, 5, 6]))
        journal.advance(2)
        journal.write()
        before = facts(journal.snapshot())
        for wrong in WRONG_COUNTS:
            with self.assertRaises(InvalidCount) as caught:
                journal.advance(wrong)
            self.assertIs(caught.exception.value, wrong)
        with self.assertRaises(AtEnd) as caught:
            journal.advance(90)
        self.assertEqual(caught.exception.step, 7)
        self.assertEqual(facts(journal.snapshot()), before)
        other = Journal(Machine(COUNTDOWN, {"a": 1}))
        with self.assertRaises(NoInput) as caught:
            other.advance(4)
        self.assertEqual((caught.exception.address, other.snapshot().now), (3, 0))

    def test_errors_write_nothing(self):
        journal = Journal(Machine(COUNTDOWN, {"a": 1}, [4]))
        journal.advance(2)
        with self.assertRaises(AtEnd):
            journal.advance(90)
        piece = journal.write()
        self.assertEqual(piece, logged(COUNTDOWN, {"a": 1}, [4], 2)[0][0])
        self.assertEqual(recover(COUNTDOWN, {"a": 1}, [4], [piece]).now, 2)

    def test_machines_with_edits(self):
        machine = Machine(COUNTDOWN, {"a": 3}, [4, 5, 6])
        machine.forward(4)
        machine.edit("x", 4)
        machine.edit("a", 2)
        with self.assertRaises(Edited) as caught:
            Journal(machine)
        self.assertEqual(caught.exception.step, 4)
        machine.back(2)
        self.assertEqual(Journal(machine).snapshot(), machine)

    def test_a_machine_on_its_way(self):
        # The first piece holds everything since the start of the run.
        machine = Machine(COUNTDOWN, {"a": 3}, [4, 5, 6])
        machine.forward(9)
        journal = Journal(machine)
        pieces = [journal.write()]
        journal.advance(3)
        pieces.append(journal.write())
        self.assertEqual(pieces, logged(COUNTDOWN, {"a": 3}, [4, 5, 6], 9, 3)[0])
        self.assertEqual(recover(COUNTDOWN, {"a": 3}, [4, 5, 6], pieces[:1]), machine)

    def test_pieces_are_different_texts(self):
        pieces = {}
        others = [COUNTDOWN, parse_program(text_of("while a", "  set a = a - 1", "  set x = read", "end", head="given a\nvar x")),
                  parse_program(text_of("while a", "  set a = a - 1", "  set x = read", "  print x", "end", head="given a x"))]
        for program in others:
            for value in (3, -3, 33):
                for inputs in ([4, 5, 6], [4, 5, 6, 7], [4, 56, 0], [45, 6, 0]):
                    for counts in ((4, 0, 0), (0, 4, 0), (1, 3, 0), (3, 1, 2), (4, 2, 1)):
                        values = {name: value for name in program.given}
                        start = 0
                        for number, (count, piece) in enumerate(zip(counts, logged(program, values, inputs, *counts)[0])):
                            told = (others.index(program), value, tuple(inputs), number, start)
                            self.assertIs(type(piece), str)
                            self.assertEqual(pieces.setdefault(piece, told), told)
                            start += count
        self.assertEqual(len(set(pieces.values())), 3 * 3 * 4 * (1 + 4 + 2))

    def test_values_and_inputs_that_leave_no_trace(self):
        program = parse_program(text_of("print 1", "print 2", head="given a b"))
        pieces, (machine,) = logged(program, {"a": 1, "b": 2}, [5, 6], 2)
        self.assertEqual(recover(program, {"a": 1, "b": 2}, (5, 6), pieces), machine)
        for values, inputs in (({"a": 2, "b": 1}, [5, 6]), ({"a": 1, "b": -2}, [5, 6]), ({"a": 12, "b": 0}, [5, 6]),
                               ({"a": 1, "b": 2}, [5]), ({"a": 1, "b": 2}, [6, 5]), ({"a": 1, "b": 2}, [56]),
                               ({"a": 1, "b": 2}, []), ({"a": 1, "b": 2}, [5, 6, 0]), ({"a": 1, "b": 2}, [-5, 6])):
            self.assertNotEqual(logged(program, values, inputs, 2)[0], pieces)
            self.assertEqual(recover(program, values, inputs, pieces), Machine(program, values, inputs))


class RecoverTest(unittest.TestCase):
    VALUES, INPUTS = {"a": 3}, [4, 5, 6]

    def setUp(self):
        # Two of the pieces are without progress.
        self.pieces, self.machines = logged(COUNTDOWN, self.VALUES, self.INPUTS, 3, 5, 0, 1, 0, 8)
        self.machines.insert(0, Machine(COUNTDOWN, self.VALUES, self.INPUTS))

    def recovered(self, pieces):
        return recover(COUNTDOWN, self.VALUES, self.INPUTS, pieces)

    def test_each_beginning(self):
        for count in range(7):
            found = self.recovered(self.pieces[:count])
            self.assertEqual(facts(found), facts(self.machines[count]))
            self.assertEqual(found, self.machines[count])
        found = recover(program=COUNTDOWN, values=self.VALUES, inputs=tuple(self.INPUTS), pieces=self.pieces)
        self.assertEqual(found, self.machines[-1])

    def test_running_on(self):
        whole = self.machines[-1]
        for count in range(6):
            found = self.recovered(self.pieces[:count])
            journal = Journal(found)
            journal.advance(whole.now - found.now)
            self.assertEqual(journal.snapshot(), whole)
            found.go(0)
            self.assertEqual(found, self.machines[0])

    def test_pieces_of_another_number(self):
        for at in range(6):
            for other in [*self.pieces[:at], *self.pieces[at + 1:]]:
                for rest in ([], self.pieces[at + 1:], self.pieces[at:]):
                    found = self.recovered([*self.pieces[:at], other, *rest])
                    self.assertEqual(found, self.machines[at])
        self.assertEqual(self.recovered(self.pieces[1:]), self.machines[0])
        self.assertEqual(self.recovered(self.pieces[::-1]), self.machines[0])
        self.assertEqual(self.recovered([*self.pieces, self.pieces[-1]]), self.machines[-1])

    def test_pieces_after_others(self):
        other, machines = logged(COUNTDOWN, self.VALUES, self.INPUTS, 2, 6, 0, 9)
        # The second ones begin at different steps, though they end at the same one.
        self.assertEqual((machines[1].now, self.machines[2].now), (8, 8))
        self.assertEqual(self.recovered([self.pieces[0], other[1]]), self.machines[1])
        self.assertEqual(self.recovered([other[0], self.pieces[1]]), machines[0])
        self.assertEqual(self.recovered([other[0], other[1], other[2], self.pieces[3]]).now, 9)

    def test_pieces_of_another_run(self):
        for program, values, inputs in (
            (EXAMPLE, self.VALUES, self.INPUTS), (COUNTDOWN, {"a": 2}, self.INPUTS), (COUNTDOWN, self.VALUES, [4, 5, 6, 7]),
            (parse_program(text_of("while a", "  set a = a - 1", "  set x = read", "end", head="given a\nvar x")),
             self.VALUES, self.INPUTS),
        ):
            others, machines = logged(program, values, inputs, 1, 1)
            self.assertEqual(self.recovered(others), self.machines[0])
            self.assertEqual(self.recovered([self.pieces[0], others[1]]), self.machines[1])
            self.assertEqual(recover(program, values, inputs, self.pieces), Machine(program, values, inputs))
            self.assertEqual(recover(program, values, inputs, others), machines[-1])

    def test_what_is_no_string(self):
        for wrong in (None, 0, 1, True, b"", self.pieces[1].encode(), [self.pieces[1]], (self.pieces[1],), {}, 1.0, [], self):
            self.assertEqual(self.recovered([wrong]), self.machines[0])
            self.assertEqual(self.recovered([self.pieces[0], wrong, self.pieces[1]]), self.machines[1])

    def test_other_strings(self):
        piece = self.pieces[1]
        for wrong in ("", " ", "\n", "0", "piece", piece + piece, piece[::-1], piece.upper(), piece.title(), " " + piece, piece * 2,
                      piece + "\n", piece[1:], piece[:-1], piece[5:-5], piece.replace(" ", "  "), piece.replace("8", "9"),
                      piece.replace("8", "10"), piece.replace("\n", "\r\n"), self.pieces[0] + piece, "\u0663", "\ud800"):
            self.assertEqual(self.recovered([self.pieces[0], wrong, *self.pieces[2:]]), self.machines[1])

    def test_one_character_changed_at_every_place(self):
        program = ENDLESS
        inputs = list(range(40))
        pieces, machines = logged(program, {"a": 11}, inputs, 7, 106)
        piece = pieces[1]
        # A run that does not end would be followed far by a piece whose end is greater.
        changed = {piece[:at] + piece[at + 1:] for at in range(len(piece))}
        for at in range(len(piece) + 1):
            for letter in "0179abf -\nx.":
                changed.add(piece[:at] + letter + piece[at:])
                changed.add(piece[:at] + letter + piece[at + 1:])
            for letter in (chr(ord(piece[at - 1]) + 1), chr(ord(piece[at - 1]) - 1), "\u0665"):
                changed.add(piece[:at] + letter + piece[at + 1:])
        changed.discard(piece)
        self.assertGreater(len(changed), 2000)
        for wrong in changed:
            found = recover(program, {"a": 11}, inputs, [pieces[0], wrong])
            self.assertEqual(found.now, 7)
        self.assertEqual(found, machines[0])
        self.assertEqual(recover(program, {"a": 11}, inputs, pieces), machines[1])

    def test_the_end_of_the_first_piece(self):
        # No first piece is made of another one by changing one character.
        machine = Machine(ENDLESS, {"a": 11}, list(range(90)))
        texts = []
        for _ in range(400):
            machine.forward()
            texts.append(Journal(machine).write())
        self.assertEqual(len(set(texts)), 400)
        near = {text: at for at, text in enumerate(texts)}
        for at, text in enumerate(texts):
            for place in range(text.rindex("piece"), len(text)):
                self.assertNotIn(text[:place] + text[place + 1:], near)
                for letter in "0123456789abcdef ":
                    self.assertIn(near.get(text[:place] + letter + text[place + 1:], at), (at,))
                    self.assertNotIn(text[:place] + letter + text[place:], near)

    def test_wrong_arguments(self):
        for wrong in (None, 1, "x", EXAMPLE.code):
            with self.assertRaises(InvalidProgram) as caught:
                recover(wrong, None, None, None)
            self.assertIsNone(caught.exception.part)
        for wrong in (None, {}, {"a": True}, {"a": 1, "x": 0}, ["a"]):
            with self.assertRaises(InvalidValues) as caught:
                recover(COUNTDOWN, wrong, None, None)
            self.assertIs(caught.exception.value, wrong)
        for wrong, position in ((None, None), (5, None), ([1, True], 1), ((None,), 0)):
            with self.assertRaises(InvalidInputs) as caught:
                recover(COUNTDOWN, {"a": 1}, wrong, None)
            self.assertEqual(caught.exception.position, position)
        for wrong in (None, (), tuple(self.pieces), "", self.pieces[0], {}, 0):
            with self.assertRaises(InvalidPieces):
                recover(COUNTDOWN, {"a": 1}, [], wrong)

    def test_arguments_stay(self):
        values, inputs, pieces = {"a": 3}, [4, 5, 6], list(self.pieces)
        found = recover(COUNTDOWN, values, inputs, pieces)
        self.assertEqual((values, inputs, pieces), ({"a": 3}, [4, 5, 6], self.pieces))
        values["a"] = 9
        inputs.append(9)
        self.assertEqual(found, self.machines[-1])


class LongNumbersTest(unittest.TestCase):
    def test_numbers_that_another_run_returned(self):
        doubled = parse_program(text_of("repeat 20000", "  set x = 2 * x + 1", "end", "print x", head="given a\nvar x"))
        machine = Machine(doubled, {"a": 0})
        machine.finish(10**6)
        (number,) = machine.outputs
        self.assertGreater(number, 10**5000)
        sums = parse_program(text_of("set x = a + x", "print x", "set a = read", head="given a\nvar x"))
        other = Machine(sums, {"a": number}, [-number, 1])
        other.finish()
        journal = Journal(other)
        self.assertEqual(journal.snapshot(), other)
        pieces, _ = logged(sums, {"a": 5}, [6], 2)
        start = Machine(sums, {"a": number}, [-number, 1])
        self.assertEqual(recover(sums, {"a": number}, [-number, 1], pieces), start)
        self.assertEqual(recover(sums, {"a": 5}, [number], pieces), Machine(sums, {"a": 5}, [number]))
        # This program writes them, too.
        pieces, machines = logged(sums, {"a": number}, [-number, 1], 2, 1)
        self.assertEqual(recover(sums, {"a": number}, [-number, 1], pieces), machines[-1])
        self.assertEqual(recover(sums, {"a": number + 1}, [-number, 1], pieces).now, 0)


class GreatLoopTest(unittest.TestCase):
    def test_thirty_digit_rounds(self):
        start = time.process_time()
        program = parse_program(text_of("set x = read", "repeat a", "  set x = x + 3", "  swap a x", "  swap a x", "end", "print x",
                                        head="given a\nvar x"))
        counts = (1, 4, BIG, 0, BIG + 1, 3 * BIG - 6, 1)
        pieces, machines = logged(program, {"a": BIG}, [9, 9], *counts)
        for count in range(1, 8):
            self.assertEqual(recover(program, {"a": BIG}, [9, 9], pieces[:count]), machines[count - 1])
        found = recover(program, {"a": BIG}, [9, 9], pieces)
        found.finish(10 * BIG)
        self.assertEqual((found.outputs, found.now), ((3 * BIG + 9,), 5 * BIG + 4))
        piece = pieces[2]
        for at in range(piece.rindex("piece"), len(piece)):
            for wrong in (piece[:at] + piece[at + 1:], piece[:at] + "1" + piece[at:], piece[:at] + "c" + piece[at + 1:]):
                if wrong != piece:
                    self.assertEqual(recover(program, {"a": BIG}, [9, 9], [*pieces[:2], wrong]), machines[1])
        # A journal of a machine that stands in the loop.
        journal = Journal(machines[4])
        self.assertEqual(recover(program, {"a": BIG}, [9, 9], [journal.write()]), machines[4])
        self.assertLess(time.process_time() - start, 10)


class RandomTest(unittest.TestCase):
    def test_random_runs(self):
        rng = random.Random(34)
        for _ in range(40):
            program = lively_program(rng)
            values, inputs = lively_start(rng, program)
            journal = Journal(Machine(program, values, inputs))
            pieces, machines = [], [journal.snapshot()]
            for _ in range(8):
                try:
                    journal.advance(rng.choice((0, 1, 2, 5, 17)))
                except (RunError, AtEnd):
                    pass
                pieces.append(journal.write())
                machines.append(journal.snapshot())
            for count in range(9):
                self.assertEqual(facts(recover(program, values, inputs, pieces[:count])), facts(machines[count]))
            count = rng.randrange(8)
            at = rng.randrange(len(pieces[count]))
            wrong = pieces[count][:at] + rng.choice(("", "0", "z", pieces[count][at] * 2)) + pieces[count][at + 1:]
            if wrong != pieces[count]:
                found = recover(program, values, inputs, [*pieces[:count], wrong, *pieces[count + 1:]])
                self.assertEqual(facts(found), facts(machines[count]))


if __name__ == "__main__":
    unittest.main()
