import random
import time
import unittest

import paper_oracle
from frugaltape.analysis import Analysis
from frugaltape.errors import InvalidProgram
from frugaltape.papers import is_paper, paper
from frugaltape.programs import Program
from frugaltape.spaces import Space
from frugaltape.texts import parse_program
from samples import limit_program, lively_program, text_of

EXAMPLE = parse_program("given a\nvar x\nmain\n  set x = 2 * a + 1\n  set a = read\nend")
# A paper of the example that was written by hand.
ROWS = (
    (0, (0, 0, 1), ("start", None)),
    (0, (1, 0, 1), ("start", "a")),
    (1, (0, 1, 1), ("step", 0, None)),
    (1, (1, 3, 1), ("step", 1, None)),
    (2, (0, 1, 1), ("step", 2, 0)),
    (2, (7, 1, 1), ("step", 2, 7)),
    (2, (-1, 3, 1), ("step", 3, -1)),
)
MOVES = (
    (1, ((1, 2),)),
    (1, ((1, 3),)),
    (7, ((6, 4), (1, 5))),
    (1, ((1, 4),)),
    (7, ((-2, 4), (2, 5), (7, 6))),
    (7, ((-1, 4), (1, 5), (7, 6))),
)
DECISIONS = (("given", ("sum", 0, (), 1)), ("given", ("sum", -1, ((1, "x"),), 2)), None)
HAND = ((), ROWS, MOVES, DECISIONS)

# A program with all that papers are about: calls, loops, free expressions, each decision, code that is not reached.
WIDE = parse_program("\n".join([
    "given a", "var x", "proc p", "  set x = (a + x) / 2", "  if read", "    call p", "  end", "end",
    "proc q", "  set a = 1", "  call q", "  set x = 2", "end", "main", "  repeat 2 * a", "    set x = read", "    call p", "  end",
    "  if a", "    set x = 1", "  else", "    set x = 0", "  end", "  if x", "    call q", "    set x = 5", "  end",
    "  while less(x, 3)", "    swap a x", "  end", "end",
]))


def changed(told, way, made):
    """Nested tuples with another object at a place, which a way of positions leads to."""
    if not way:
        return made
    return told[:way[0]] + (changed(told[way[0]], way[1:], made),) + told[way[0] + 1:]


def places(told, way=()):
    """All objects in nested tuples with the ways to them."""
    yield way, told
    if isinstance(told, tuple):
        for at, part in enumerate(told):
            yield from places(part, (*way, at))


def samples():
    """Programs and papers, each with many places in the paper."""
    rng = random.Random(8)
    made = paper(WIDE)
    return (EXAMPLE, HAND, list(places(HAND))), (WIDE, made, rng.sample(list(places(made)), 600))


class PaperTest(unittest.TestCase):
    def check(self, program):
        """The paper is accepted by both checkers, and shows what the analysis tells."""
        made = paper(program)
        self.assertIs(is_paper(program, made), True)
        self.assertTrue(paper_oracle.accepts(program, made))
        matrices, vectors, _, decisions = made
        analysis = Analysis(program)
        main = program.code.index(("stop",))
        for address in range(len(program.code)):
            space = analysis.open_space(address)
            self.assertEqual(Space(space.width, [row for at, row, _ in vectors if at == address]), space)
            if address > main:
                space = analysis.ways(address)
                self.assertEqual(Space(space.width, [row for at, row, _ in matrices if at == address]), space)
            decision = analysis.decision(address)
            if decision == ("record",):
                self.assertEqual(decisions[address][0], "record")
            else:
                self.assertEqual(decisions[address], decision)
        return made

    def test_example_of_the_interface(self):
        self.check(EXAMPLE)

    def test_a_paper_that_was_written_by_hand(self):
        self.assertIs(is_paper(EXAMPLE, HAND), True)
        self.assertTrue(paper_oracle.accepts(EXAMPLE, HAND))

    def test_the_smallest_programs(self):
        self.check(Program(("a",), (), (), ()))
        self.assertEqual(paper(Program((), ("a",), (), ())), ((), ((0, (0, 1), ("start", None)),), (), (None,)))
        matrices, _, moves, _ = self.check(Program((), ("a",), (("p", ()), ("q", ())), ()))
        self.assertEqual(matrices, ((1, (1, 0, 0, 1), ("entry",)), (2, (1, 0, 0, 1), ("entry",))))
        self.assertEqual(moves, ())

    def test_a_program_with_everything(self):
        words = {decision[0] for decision in self.check(WIDE)[3] if decision is not None}
        self.assertEqual(words, {"given", "record", "apart", "only", "never"})

    def test_random_programs(self):
        rng = random.Random(23)
        made = 0
        while made < 120:
            program = lively_program(rng)
            if len(program.code) <= 40:
                self.check(program)
                made += 1

    def test_programs_at_the_limits(self):
        rng = random.Random(24)
        for _ in range(4):
            program = limit_program(rng)
            start = time.process_time()
            made = paper(program)
            self.assertIs(is_paper(program, made), True)
            self.assertLess(time.process_time() - start, 20)

    def test_equal_calls_return_equal_papers(self):
        self.assertEqual(paper(WIDE), paper(program=WIDE))

    def test_what_is_no_program(self):
        for wrong in (None, 1, "main\nend", EXAMPLE.code, Program):
            for call in (lambda: paper(wrong), lambda: is_paper(wrong, HAND), lambda: is_paper(wrong, None)):
                with self.assertRaises(InvalidProgram) as caught:
                    call()
                self.assertIsNone(caught.exception.part)

    def test_names_of_arguments(self):
        self.assertIs(is_paper(program=EXAMPLE, candidate=HAND), True)


class OtherPaperTest(unittest.TestCase):
    """Papers with other rows, moves, sums, witnesses and orders that are right, too."""

    def accept(self, program, candidate):
        self.assertTrue(paper_oracle.accepts(program, candidate))
        self.assertIs(is_paper(program, candidate), True)

    def rewritten(self, program, rng, extra):
        matrices, vectors = paper_oracle.other_rows(program, rng, extra)
        analysis = Analysis(program)
        known = [analysis.decision(address) for address in range(len(program.code))]
        decisions = paper_oracle.made_decisions(program, vectors, known)
        return matrices, vectors, paper_oracle.made_moves(program, matrices, vectors), decisions

    def test_rows_that_were_found_in_another_order(self):
        rng = random.Random(1)
        for _ in range(10):
            self.accept(WIDE, self.rewritten(WIDE, rng, 0))
            self.accept(EXAMPLE, self.rewritten(EXAMPLE, rng, 0))

    def test_rows_that_depend_on_each_other_or_are_repeated(self):
        rng = random.Random(2)
        for extra in (1, 2):
            made = self.rewritten(WIDE, rng, extra)
            self.assertGreater(len(made[1]), len(paper(WIDE)[1]))
            self.accept(WIDE, made)
        rows = (*ROWS, ROWS[6], (2, (1, 3, 1), ("step", 3, 1)), (2, (10**50, 3, 1), ("step", 3, 10**50)), ROWS[4])
        self.accept(EXAMPLE, ((), rows, MOVES, DECISIONS))
        self.accept(EXAMPLE, ((), rows, paper_oracle.made_moves(EXAMPLE, (), rows), DECISIONS))

    def test_random_programs(self):
        rng = random.Random(3)
        made = 0
        while made < 40:
            program = lively_program(rng, 2)
            if len(program.code) <= 18:
                self.accept(program, self.rewritten(program, rng, made % 2))
                made += 1

    def test_other_multiples_and_parts(self):
        for program in (EXAMPLE, WIDE):
            matrices, vectors, moves, decisions = paper(program)
            for times in (2, -1, -3, 10**400):
                others = tuple((times * multiple, tuple((times * factor, row) for factor, row in parts))
                               for multiple, parts in moves)
                self.accept(program, (matrices, vectors, others, decisions))
            others = tuple((multiple, parts[::-1]) for multiple, parts in moves)
            self.accept(program, (matrices, vectors, others, decisions))
            others = tuple((multiple, tuple(part for factor, row in parts for part in ((factor + 5, row), (0, row), (-5, row))))
                           for multiple, parts in moves)
            self.accept(program, (matrices, vectors, others, decisions))

    def test_other_sums(self):
        # After the first step x is 2 * a + 1, and the old x is 0.
        for change in (1, -1, 7, 10**600):
            nothing = ("sum", -change, ((-2 * change, "a"), (change, "x")), 1)
            self.accept(EXAMPLE, ((), ROWS, MOVES, (("given", nothing), *DECISIONS[1:])))
            wrong = ("sum", 1 - change, ((-2 * change, "a"), (change, "x")), 1)
            self.assertIs(is_paper(EXAMPLE, ((), ROWS, MOVES, (("given", wrong), *DECISIONS[1:]))), False)

    def test_other_sums_that_tell_ways_apart(self):
        program = parse_program(text_of("if read", "  set x = 2 * a", "  set y = 1", "else", "  set x = 2 * a", "end",
                                        head="given a\nvar x y"))
        matrices, vectors, moves, decisions = paper(program)
        for change in (0, 1, -5, 10**400):
            terms = tuple((factor, name) for factor, name in ((2 * change, "a"), (-change, "x"), (1, "y")) if factor)
            other = ("apart", ("sum", 0, terms, 1))
            self.accept(program, (matrices, vectors, moves, (*decisions[:3], other, decisions[4], other, None)))
            if change:
                self.assertIs(is_paper(program, (matrices, vectors, moves, (*decisions[:3], other, *decisions[4:]))), False)

    def test_other_witnesses(self):
        program = parse_program(text_of("set x = read", "while x", "end", "repeat read", "  set x = 1", "end",
                                        head="given a x"))
        matrices, vectors, moves, decisions = paper(program)
        recording = [address for address, decision in enumerate(decisions) if decision and decision[0] == "record"]
        self.assertEqual(recording, [0, 1, 3, 5, 6])
        for times in (-1, 2, 10**400):
            self.accept(program, (matrices, vectors, moves, tuple(self.scaled(decision, times) for decision in decisions)))
        word, witness = decisions[0]
        number = witness[0][1]
        for more in ((0, number, 10**30), (0, number, -7)):
            for other in ((*witness, more), (more, *witness[::-1])):
                self.accept(program, (matrices, vectors, moves, ((word, other), *decisions[1:])))

    def scaled(self, decision, times):
        if decision is None or decision[0] != "record":
            return decision
        if len(decision[1]) == 2 and isinstance(decision[1][0][0], tuple):
            return "record", tuple(tuple((times * factor, row) for factor, row in parts) for parts in decision[1])
        return "record", tuple((times * factor, row, choice) for factor, row, choice in decision[1])

    def test_a_witness_with_other_choices(self):
        program = Program(("x",), (), (), (("set", "x", ("read",)),))
        matrices, vectors, moves, decisions = paper(program)
        for choice in (0, 1, -3, 10**60):
            # The two starts have the values 0 and 1, which are destroyed.
            self.accept(program, (matrices, vectors, moves, (("record", ((1, 1, choice), (-1, 0, choice))), None)))
        for wrong in (((1, 1, 2), (-1, 0, 3)), ((1, 0, 2),), ((1, 1, 0),), (), ((0, 1, 2),), ((1, 1, 2), (-1, 1, 2))):
            self.assertIs(is_paper(program, (matrices, vectors, moves, (("record", wrong), None))), False)

    def test_sums_where_an_address_has_no_rows(self):
        matrices, vectors, moves, decisions = paper(WIDE)
        nowhere = [address for address, decision in enumerate(decisions) if decision == ("never",)]
        # One in q and one in main; the ways of no join are never used.
        self.assertEqual(len(nowhere), 2)
        for address in nowhere:
            for value in (("sum", 0, (), 1), ("sum", 7, ((-3, "a"), (10**400, "x")), 5)):
                other = changed(decisions, (address,), ("given", value))
                self.accept(WIDE, (matrices, vectors, moves, other))
            for value in (("sum", 0, (), 2), ("sum", 0, ((1, "y"),), 1), ("sum", True, (), 1), None, ("read",)):
                other = changed(decisions, (address,), ("given", value))
                self.assertIs(is_paper(WIDE, (matrices, vectors, moves, other)), False)
            for other in (("record", ()), ("only", 0), ("apart", ("sum", 0, (), 1)), None, ("record",), ("given",)):
                self.assertIs(is_paper(WIDE, (matrices, vectors, moves, changed(decisions, (address,), other))), False)


class WrongPaperTest(unittest.TestCase):
    def refuse(self, program, *candidates):
        for candidate in candidates:
            self.assertIs(is_paper(program, candidate), False, candidate)

    def test_other_objects(self):
        self.refuse(EXAMPLE, None, 1, "paper", (), (1,), HAND[:3], (*HAND, ()), list(HAND), {}, EXAMPLE, Space(3), paper, is_paper)
        for at in range(4):
            for wrong in (None, 1, "x", list(HAND[at]), {}, Space(3), (None,), ((),), (1,), ((), ())):
                self.refuse(EXAMPLE, changed(HAND, (at,), wrong))

    def test_each_part_is_of_its_kind(self):
        for program, made, found in samples():
            for way, told in found:
                if isinstance(told, tuple):
                    self.refuse(program, changed(made, way, list(told)))
                elif told in (0, 1) and told is not None:
                    self.refuse(program, changed(made, way, bool(told)))
                for wrong in ("", (), None, [], "step", {}):
                    if told != wrong:
                        self.compare(program, changed(made, way, wrong))

    def compare(self, program, candidate):
        """Both checkers agree."""
        self.assertIs(is_paper(program, candidate), paper_oracle.accepts(program, candidate), candidate)

    def test_each_number_is_right(self):
        for program, made, found in samples():
            for way, told in found:
                if isinstance(told, int):
                    for other in (told + 1, told - 1, -told, 10**30):
                        if other != told:
                            self.compare(program, changed(made, way, other))

    def test_nothing_is_missing_and_nothing_is_too_much(self):
        for program, made, found in samples():
            for way, told in found:
                if isinstance(told, tuple) and told:
                    for other in (told[:-1], told[1:], (*told, told[-1]), (told[0], *told), (*told, None)):
                        self.compare(program, changed(made, way, other))

    def test_parts_that_are_exchanged(self):
        rng = random.Random(5)
        made = paper(WIDE)
        tuples = [(way, told) for way, told in places(made) if isinstance(told, tuple) and len(told) > 1]
        for _ in range(800):
            way, told = rng.choice(tuples)
            at, other = rng.sample(range(len(told)), 2)
            exchanged = list(told)
            exchanged[at], exchanged[other] = exchanged[other], exchanged[at]
            self.compare(WIDE, changed(made, way, tuple(exchanged)))

    def test_multiples_are_not_0(self):
        for at, (_, parts) in enumerate(MOVES):
            for other in ((0, ()), (0, ((0, parts[0][1]),)), (0, ((5, parts[0][1]), (-5, parts[0][1])))):
                self.refuse(EXAMPLE, changed(HAND, (2, at), other))

    def test_sums_that_are_right_for_one_choice_only(self):
        # The second step sets a to the choice; these are (x - 1) / 2 only where it is 1, or 0.
        for value in (("sum", -3, ((2, "a"), (1, "x")), 2), ("sum", -1, ((2, "a"), (1, "x")), 2)):
            self.refuse(EXAMPLE, changed(HAND, (3, 1), ("given", value)))

    def test_witnesses_of_nothing(self):
        program = parse_program(text_of("set x = read", "while x", "end", "repeat read", "  set x = 1", "end",
                                        head="given a x"))
        made = paper(program)
        for address in (0, 5, 6):
            (_, number, choice), *_ = made[3][address][1]
            for wrong in ((), ((0, number, choice),), ((1, number, choice), (-1, number, choice))):
                self.refuse(program, changed(made, (3, address), ("record", wrong)))
        (zero, *_), (one, *_) = made[3][1][1]
        for wrong in (((), ()), (((0, zero[1]),), ((0, one[1]),)), (((1, zero[1]), (-1, zero[1])), ())):
            decision = ("record", wrong)
            self.refuse(program, changed(changed(made, (3, 1), decision), (3, 3), decision))

    def test_a_turn_destroys_only_at_the_end_of_its_loop(self):
        program = parse_program(text_of("repeat read", "end", head="var x"))
        made = paper(program)
        word, witness = made[3][1]
        self.assertEqual((word, {choice for _, _, choice in witness}), ("record", {0}))
        for choice in (1, 2, None, False):
            other = tuple((factor, number, choice) for factor, number, _ in witness)
            self.refuse(program, changed(made, (3, 1), (word, other)))

    def test_rows_of_vectors(self):
        wrong = (
            (2, (0, 1, 1), ("step", 6, 0)),
            (2, (0, 1, 1), ("step", 7, 0)),
            (2, (0, 1, 1), ("step", -5, 0)),
            (2, (0, 1, 1), ("step", 2, None)),
            (2, (0, 1, 1), ("step", 2, False)),
            (2, (0, 1, 1), ("step", 2)),
            (2, (0, 1, 1), ("step", 2, 0, 0)),
            (2, (0, 2, 2), ("step", 2, 0)),
            (2, (0, -1, -1), ("step", 2, 0)),
            (1, (0, 1, 1), ("step", 2, 0)),
            (3, (0, 1, 1), ("step", 2, 0)),
            (1, (0, 1, 1), ("step", 0, 0)),
            (1, (0, 1, 1), ("step", True, None)),
            (0, (0, 0, 1), ("start", "x")),
            (0, (0, 1, 1), ("start", "x")),
            (0, (0, 0, 1), ("start", None)),
            (0, (1, 0, 1), ("start", "a")),
            (0, (0, 0, 1), ("entry",)),
            (1, (0, 1, 1), ("enter", 0)),
            (1, (0, 1, 1), ("call", 0, 0)),
            (1, (0, 1, 1), ()),
            (1, (0, 1, 1), ("jump", 0, None)),
        )
        for row in wrong:
            rows = (*ROWS, row)
            self.refuse(EXAMPLE, ((), rows, MOVES, DECISIONS), ((), rows, (*MOVES, (1, ((1, 4),))), DECISIONS))
        self.assertIs(is_paper(EXAMPLE, ((), (*ROWS, (2, (0, 1, 1), ("step", 2, 0))), MOVES, DECISIONS)), True)

    def test_starts(self):
        self.refuse(EXAMPLE, ((), ROWS[1:], MOVES, DECISIONS))
        self.refuse(EXAMPLE, ((), (ROWS[1], ROWS[0], *ROWS[2:]), MOVES, DECISIONS))
        program = parse_program("given a\nvar x\nmain\nend")
        starts = ((0, (0, 0, 1), ("start", None)), (0, (1, 0, 1), ("start", "a")))
        self.assertIs(is_paper(program, ((), starts, (), (None,))), True)
        self.refuse(program, ((), starts[:1], (), (None,)), ((), starts[1:], (), (None,)), ((), starts[::-1], (), (None,)))
        self.refuse(program, ((), (), (), (None,)), ((), (*starts, (0, (0, 1, 1), ("start", "x"))), (), (None,)))

    def test_rows_of_matrices(self):
        program = parse_program("var x\nproc p\n  set x = 2 * x\n  call q\nend\nproc q\n  set x = x + 1\nend\nmain\n  call p\nend")
        matrices, vectors, moves, decisions = paper(program)
        self.assertEqual(matrices, (
            (2, (1, 0, 0, 1), ("entry",)), (5, (1, 0, 0, 1), ("entry",)), (3, (2, 0, 0, 1), ("step", 0, None)),
            (6, (1, 1, 0, 1), ("step", 1, None)), (4, (2, 1, 0, 1), ("call", 2, 3)),
        ))
        for at, row in (
            (4, (4, (1, 0, 0, 1), ("call", 2, 0))),
            (4, (4, (4, 1, 0, 1), ("call", 2, 4))),
            (4, (4, (2, 0, 0, 1), ("call", 2, 1))),
            (4, (4, (2, 1, 0, 1), ("call", 3, 2))),
            (4, (4, (2, 1, 0, 1), ("call", 0, 3))),
            (4, (4, (2, 1, 0, 1), ("call", 2, True))),
            (4, (4, (2, 1, 0, 1), ("call", -3, 3))),
            (4, (4, (2, 1, 0, 1), ("call", 2, -2))),
            (4, (4, (2, 1, 0, 1), ("step", 2, None))),
            (4, (5, (2, 0, 0, 1), ("enter", 2))),
            (4, (4, (-2, -1, 0, -1), ("call", 2, 3))),
            (0, (5, (1, 0, 0, 1), ("entry",))),
            (0, (2, (1, 0, 0, 1), ("step", 0, None))),
            (4, (2, (1, 0, 0, 1), ("entry",))),
            (1, (5, (1, 0, 0, 1), ("start", None))),
        ):
            self.refuse(program, (changed(matrices, (at,), row), vectors, moves, decisions))
        self.refuse(program, (matrices[1:], vectors, moves, decisions), ((), vectors, moves, decisions))
        # Nothing else depends on the rows of procedures that do nothing and are not called.
        idle = parse_program("var x\nproc p\nend\nproc q\nend\nmain\nend")
        entries, *others = paper(idle)
        self.assertIs(is_paper(idle, (entries, *others)), True)
        self.refuse(idle, ((), *others), (entries[:1], *others), (entries[1:], *others), (entries[::-1], *others))
        # The product must be written with the matrices that come before.
        self.refuse(program, (matrices[:3] + (matrices[4], matrices[3]), vectors, moves, decisions))
        later = (4, (2, 1, 0, 1), ("call", 2, 4))
        self.refuse(program, (matrices[:3] + (later, matrices[3]), vectors, moves, decisions))

    def test_a_matrix_of_another_procedure(self):
        program = parse_program("var x\nproc p\nend\nproc q\nend\nmain\n  call p\n  call q\nend")
        made = paper(program)
        self.assertEqual([row[2] for row in made[1]], [("start", None), ("enter", 0), ("call", 0, 0), ("enter", 2), ("call", 2, 1)])
        for way, other in (((1, 1, 2), ("enter", 2)), ((1, 2, 2), ("call", 0, 1)), ((1, 3, 2), ("enter", 0)), ((1, 4, 2), ("call", 2, 0))):
            self.refuse(program, changed(made, way, other))

    def test_no_decision_in_place_of_another(self):
        for program in (EXAMPLE, WIDE):
            matrices, vectors, moves, decisions = paper(program)
            others = [None, ("never",), ("only", 0), ("only", 1), ("record", ()), ("record", ((), ())), ("given", ("sum", 0, (), 1)),
                      ("apart", ("sum", 0, (), 1)), ("record",), ("only", 2), ("only", True), ("only",), (), *decisions]
            for address in range(len(decisions)):
                for other in others:
                    self.compare(program, (matrices, vectors, moves, changed(decisions, (address,), other)))

    def test_no_decision_in_place_of_another_at_joins(self):
        head = "given a\nvar x\nproc p\n  call p\nend"
        lines = ["if a", "  set x = 1", "end", "if read", "end", "if a", "  call p", "end", "if a", "else", "  call p", "end",
                 "if a", "  call p", "else", "  call p", "end", "if a", "end"]
        program = parse_program(text_of(*lines, head=head))
        made = paper(program)
        joins = [(at, other) for at in range(len(program.code)) for other in range(at)
                 if program.code[at][0] == "go" and program.code[at][:2] == program.code[other][:2]]
        found = [made[3][at] for at, _ in joins]
        self.assertEqual([decision[0] for decision in found], ["apart", "record", "only", "only", "never", "never"])
        others = [("never",), ("only", 0), ("only", 1), *[("apart", ("sum", constant, (), 1)) for constant in (0, 1)], *found]
        for at, other in joins:
            for decision in others:
                candidate = changed(changed(made, (3, at), decision), (3, other), decision)
                self.compare(program, candidate)
                if decision[0] != made[3][at][0]:
                    self.refuse(program, candidate)

    def test_joins_whose_two_decisions_differ(self):
        program = parse_program(text_of("if read", "end", head="var x"))
        matrices, vectors, moves, (_, record, _, _) = paper(program)
        word, (zero, one) = record
        other = (word, tuple(tuple((2 * factor, row) for factor, row in parts) for parts in (zero, one)))
        for decisions in ((None, record, record, None), (None, other, other, None)):
            self.assertIs(is_paper(program, (matrices, vectors, moves, decisions)), True)
        self.refuse(program, (matrices, vectors, moves, (None, record, other, None)))

    def test_papers_of_other_programs(self):
        rng = random.Random(6)
        programs = [lively_program(rng, 2) for _ in range(25)]
        papers = [paper(program) for program in programs]
        for program in programs:
            for made in papers:
                self.compare(program, made)

    def test_random_changes(self):
        rng = random.Random(7)
        for _ in range(40):
            program = lively_program(rng, 3)
            made = paper(program)
            numbers = [way for way, told in places(made) if isinstance(told, int)]
            for _ in range(12):
                way = rng.choice(numbers)
                self.compare(program, changed(made, way, rng.choice((0, 1, -1, 2, 5))))


if __name__ == "__main__":
    unittest.main()
