"""Causes of alarms of plain programs [15.3] to [15.5], [15.7]."""

import random
import unittest

from plain import COUNT, behind, long_programs, plain_states, rows_of, unfit_programs
from randoms import loop_book, loop_program, plain_places, random_program, remade, sound_book, told_meanings
from support import TREATMENTS, error_of, parity_book, sign_book
from truebooks.alarms import Loss, Real, alarm_cause, alarm_causes, cause_fault
from truebooks.bestbook import best_book
from truebooks.books import Book
from truebooks.calls import answer_program, node_of_calls
from truebooks.letters import passes
from truebooks.lots import empty_lot, just_lot, lot_members, range_lot, whole_lot
from truebooks.placelots import failing_lot
from truebooks.places import alphabet_of
from truebooks.programs import Program
from truebooks.reasons import find_line, lines_under, reasons_of
from truebooks.runs import open_calls, run_program

FAR = 120


def plus(by):
    return ("deed", 0, ("add", by))


def rough_book(program, meaning=None):
    """A book of one word over a program's alphabet, which alarms at every need that is met."""
    letters, tests = alphabet_of(program)
    letters = (("set", 0), *[letter for letter in letters if letter != ("set", 0)])
    return Book(letters, tests, ((0, 1), (1, 1)), (empty_lot(), meaning or whole_lot()), [(0, 1)] * len(letters),
                [(0, 1)] * len(tests), [(0, 1)] * len(tests), 1)


def zero_book():
    """The best book of [15.8]: NONE, Z (just 0) and any."""
    return best_book(Book((("set", 0), ("add", 1)), (("below", 3), ("is", 3)), ((0, 1, 2), (1, 1, 2), (2, 2, 2)),
                          (empty_lot(), just_lot([0]), whole_lot()), ((0, 2, 2),) * 2, ((0, 2, 2),) * 2,
                          ((0, 2, 2),) * 2, 2))


def long_ways(test):
    """Two loops, which add 520 and take away 498, and a need behind them."""
    up = ("while", 0, ("rest", 2, 0), (*[plus(20)] * 26, ("either", (), (plus(1),))))
    down = ("while", 0, ("rest", 2, 0), (*[plus(-20)] * 24, plus(-18), ("either", (), (plus(1),))))
    return Program([("main", 1, (up, plus(-1), down, plus(-1), ("need", 0, test)))])


def plain_loss(book, program, place):
    """The loss that [15.4] tells, by the numbers that are not far out."""
    rows = plain_places(program.procedures[0][2])
    answer = answer_program(book, program, "entry")
    told = answer.tables[0][place]
    test = rows[place][0][2]
    numbers = {word: lot_members(lot, -FAR, FAR) for word, lot in enumerate(book.meanings)}
    if all(passes(test, n) for n in numbers[told[0]]):
        return Loss(None, None)
    lines = reasons_of(book, program, "entry")
    for number in lines_under(lines, find_line(lines, answer.nodes[0], place, told)):
        _, _, row, why = lines[number]
        brought = {0}
        if why[0] != "start":
            elder = lines[why[1]]
            brought = set(numbers[elder[2][0]])
            if why[0] == "join":
                brought |= set(numbers[lines[why[2]][2][0]])
            else:
                brought = {behind(rows[elder[1]][0], n)[why[2]] for n in brought}
        # At the edge of the window numbers are brought from beyond it.
        lost = [n for n in numbers[row[0]] if abs(n) < FAR - 25 and n not in brought]
        if lost:
            return Loss(number, min(lost, key=lambda n: (abs(n), n)))
    return None


class CauseTest(unittest.TestCase):
    def test_the_example(self):
        book = zero_book()
        self.assertEqual(alarm_causes(book, COUNT), ((2, alarm_cause(book, COUNT, 2)),))
        cause = alarm_cause(book, COUNT, 2)
        self.assertEqual(cause, plain_loss(book, COUNT, 2))
        self.assertIsInstance(cause, Loss)

    def test_real_by_hand(self):
        program = Program([("main", 1, (("either", (plus(2),), (("either", (), ()), plus(-2))), ("either", (), ()),
                                        ("need", 0, ("is", 0))))])
        book = rough_book(program)
        # -2 comes ahead of 2, and where both blocks are empty any choice will do.
        cause = alarm_cause(book, program, 5)
        self.assertEqual(cause.number, -2)
        self.assertEqual(cause.choices[0], 1)
        self.assertIsNone(cause_fault(book, program, 5, cause))
        self.assertIsNone(cause_fault(book, program, 5, Real((1, 1, 1), -2)))
        self.assertEqual(alarm_causes(book, program), ((5, cause),))
        # A run that fails at once has no choices.
        program = Program([("main", 1, (("need", 0, ("is", 1)), ("need", 0, ("is", 2))))])
        self.assertEqual(alarm_cause(rough_book(program), program, 0), Real((), 0))
        # No run comes to the second need: its alarm is a loss.
        self.assertIsInstance(alarm_cause(rough_book(program), program, 1), Loss)

    def test_the_fewest_steps(self):
        # By the loop 3 comes up, too, but later.
        rows = (("either", (("while", 0, ("below", 3), (plus(1),)),), (plus(1), plus(1), plus(1), ("copy", 0, 0))),
                ("need", 0, ("below", 3)))
        program = Program([("main", 1, rows)])
        cause = alarm_cause(rough_book(program), program, 7)
        self.assertEqual(cause, Real((1,), 3))
        self.assertIsNone(cause_fault(rough_book(program), program, 7, Real((0,), 3)))
        self.assertIsNone(cause_fault(rough_book(program), program, 7, Real((1, 1, 1), 3)))

    def test_a_book_that_lies(self):
        # The meaning has no number that fails, but some run fails.
        program = Program([("main", 1, (plus(1), ("need", 0, ("is", 0))))])
        book = rough_book(program, just_lot([0]))
        self.assertEqual(alarm_cause(book, program, 1), Real((), 1))
        # No run fails and the meaning has no number that does: the table of the test alone.
        program = Program([("main", 1, (("need", 0, ("is", 0)),))])
        book = rough_book(program, just_lot([0]))
        self.assertEqual(alarm_cause(book, program, 0), Loss(None, None))
        book = rough_book(program, range_lot(-1, None))
        self.assertEqual(alarm_cause(book, program, 0), Loss(0, -1))

    def test_losses_by_hand(self):
        # Z, then adding 1 tells P, from 1 on: that line loses 2, and it is ahead of the need.
        program = Program([("main", 1, (plus(1), ("need", 0, ("is", 1))))])
        book = sign_book(tests=(("is", 1),), so=((0, 0, 2, 2),), not_so=((0, 1, 2, 3),))
        cause = alarm_cause(book, program, 1)
        self.assertEqual(cause, Loss(1, 2))
        self.assertEqual(reasons_of(book, program, "entry")[1][1:3], (1, (2,)))
        # The first word loses what it means besides 0.
        book = remade(book, meanings=(empty_lot(), just_lot([0, -7, 7]), range_lot(1, None), whole_lot()))
        self.assertEqual(alarm_cause(book, program, 1), Loss(0, -7))
        # A join loses what neither of its sides has.
        program = Program([("main", 1, (("either", (plus(1),), ()), ("need", 0, ("below", 2))))])
        book = sign_book(tests=(("below", 2),), so=((0, 1, 2, 3),), not_so=((0, 0, 0, 3),),
                         meanings=(empty_lot(), just_lot([0]), just_lot([1]), whole_lot()))
        lines = reasons_of(book, program, "entry")
        cause = alarm_cause(book, program, 2)
        self.assertEqual(cause.number, -1)
        self.assertEqual(lines[cause.line][3][0], "join")

    def test_random_programs(self):
        rng = random.Random(271)
        seen = {"real": 0, "loss": 0, "table": 0, "long": 0}
        for case in range(250):
            program = loop_program(rng)
            book = loop_book(rng, nones=rng.choice((0, 0.2)))
            if case % 2:
                meanings = told_meanings(book) or book.meanings
                try:
                    book = remade(book, meanings=meanings)
                except ValueError:
                    pass
            answer = answer_program(book, program, "entry")
            causes = alarm_causes(book, program)
            self.assertEqual([place for place, _ in causes], [place for _, place in answer.alarm_places])
            states = plain_states(program)
            for place, cause in causes:
                self.assertEqual(alarm_cause(book, program, place), cause)
                self.assertIsNone(cause_fault(book, program, place, cause))
                test = rows_of(program)[place][0][2]
                failing = [n for at, n in states if at == place and not passes(test, n)]
                self.assertEqual(isinstance(cause, Real), bool(failing))
                if failing:
                    seen["real"] += 1
                    self.assertEqual(cause.number, min(failing, key=lambda n: (abs(n), n)))
                    run = run_program(program, cause.choices, 5000)
                    self.assertEqual((run.end, run.steps[-1][2:]), ("failed", (place, (cause.number,))))
                    self.assertEqual(len(run.steps), states[place, cause.number])
                    seen["long"] += len(run.steps) > 10
                else:
                    seen["table" if cause.line is None else "loss"] += 1
                    self.assertEqual(cause, plain_loss(book, program, place))
        self.assertGreater(min(seen.values()), 5, seen)

    def test_a_cause_is_real_exactly_if_some_run_fails(self):
        # Were no line to lose anything, some run would fail: so each alarm has a cause.
        rng = random.Random(272)
        for _ in range(40):
            program = loop_program(rng)
            book = loop_book(rng)
            book = remade(book, meanings=[empty_lot()] + [whole_lot()] * (book.many - 1))
            for place, cause in alarm_causes(book, program):
                self.assertEqual(isinstance(cause, Real), not failing_lot(program, place).bare)


class LongTest(unittest.TestCase):
    def test_the_bound_of_steps(self):
        program = long_ways(("below", 1))
        book = rough_book(program)
        cause = alarm_cause(book, program, 59)
        self.assertEqual(cause.number, 2)
        run = run_program(program, cause.choices, 5000)
        self.assertEqual((run.end, len(run.steps)), ("failed", 3828))
        self.assertIsNone(cause_fault(book, program, 59, cause))
        # -2 needs 181 rounds up and 189 down.
        program = long_ways(("is", 0))
        for function, more in ((alarm_cause, (59,)), (alarm_causes, ()), (cause_fault, (59, Real((), 0))),
                               (cause_fault, (59, Loss(0, 0)))):
            self.assertEqual(error_of(function, rough_book(program), program, *more), ("TooLong", 5000))

    def test_just_at_the_bound(self):
        # Idle rows make the one run longer, step by step.
        for idle, steps in ((0, 4997), (3, 5000), (4, None)):
            up = ("while", 0, ("rest", 2, 0), (*[plus(20)] * 16, plus(6), ("either", (), (plus(1),))))
            down = ("while", 0, ("rest", 2, 0), (*[plus(-20)] * 29, ("either", (), (plus(1),))))
            rows = (*[("copy", 0, 0)] * idle, up, plus(-1), down, plus(-1), ("need", 0, ("below", 1)))
            program = Program([("main", 1, rows)])
            place = len(rows_of(program)) - 1
            book = rough_book(program)
            if steps is None:
                self.assertEqual(error_of(alarm_cause, book, program, place), ("TooLong", 5000))
            else:
                cause = alarm_cause(book, program, place)
                self.assertEqual(cause.number, 2)
                self.assertEqual(len(run_program(program, cause.choices, 5000).steps), steps)


class ErrorTest(unittest.TestCase):
    def test_errors_in_their_order(self):
        strange = Program([("main", 2, (("deed", 0, ("set", 7)),))])
        for function, more in ((alarm_cause, (True,)), (alarm_causes, ()), (cause_fault, (None, None))):
            self.assertEqual(error_of(function, parity_book(), strange, *more), ("OtherAlphabet",))
            for program, what in unfit_programs():
                self.assertEqual(error_of(function, rough_book(program), program, *more), ("Unfit", what))

    def test_no_alarms(self):
        book = zero_book()
        for place in (0, 1, 3, 4, -1, True, False, None, "2", (2,), [2], {}, 10 ** 9, ("main", 2)):
            self.assertEqual(error_of(alarm_cause, book, COUNT, place), ("NoAlarm", place))
            self.assertEqual(error_of(cause_fault, book, COUNT, place, Loss(0, 0)), ("NoAlarm", place))
        # True is no place, even where 1 alarms.
        program = Program([("main", 1, (plus(1), ("need", 0, ("is", 3))))])
        self.assertEqual(error_of(alarm_cause, rough_book(program), program, True), ("NoAlarm", True))
        self.assertIsNone(error_of(alarm_cause, rough_book(program), program, 1))
        # A need that is quiet has no alarm, nor one that no row comes to.
        quiet = Program([("main", 1, (("need", 0, ("is", 3)), ("stop",), ("need", 0, ("is", 3))))])
        book = rough_book(quiet)
        self.assertEqual(error_of(alarm_cause, book, quiet, 2), ("NoAlarm", 2))
        self.assertEqual(error_of(alarm_cause, remade(book, not_so=((0, 0),)), quiet, 0), ("NoAlarm", 0))
        self.assertEqual(alarm_causes(remade(book, not_so=((0, 0),)), quiet), ())

    def test_too_long(self):
        for program, most in long_programs()[1:]:
            book = rough_book(program)
            need = len(rows_of(program)) - 1
            self.assertEqual(error_of(alarm_cause, book, program, 0), ("NoAlarm", 0))
            if error_of(alarm_cause, book, program, need)[0] != "NoAlarm":
                self.assertEqual(error_of(alarm_cause, book, program, need), ("TooLong", most))
                self.assertEqual(error_of(cause_fault, book, program, need, Real((), 0)), ("TooLong", most))
            self.assertEqual(error_of(alarm_causes, book, program), ("TooLong", most))


class FaultTest(unittest.TestCase):
    def test_reals(self):
        program = Program([("main", 1, (("either", (plus(2),), (plus(-3),)), ("need", 0, ("is", 9)),
                                        ("need", 0, ("is", 0))))])
        book = rough_book(program)
        right = alarm_cause(book, program, 3)
        self.assertEqual(right, Real((0,), 2))
        cases = (
            (Real((), 2), None), (Real((0, 1, 1), 2), None), (Real([0], 2), None), (Real((0,) * 5000, 2), None),
            (Real((0,) * 5001, 2), "choices"), (Real((0, 2), 2), "choices"), (Real((True,), 2), "choices"),
            (Real((0, None), 2), "choices"), (Real(("0",), 2), "choices"), (Real((-1,), 9), "choices"),
            (Real((0,), 3), "number"), (Real((0,), -3), "number"), (Real((1,), -3), "number"),
            (Real((1,), 2), "number"), (Loss(0, 0), "real"), (Loss(None, None), "real"),
        )
        for cause, word in cases:
            self.assertEqual(cause_fault(book, program, 3, cause), word, vars(cause))
        # No run fails at the second need, for all fail at the first one.
        loss = alarm_cause(book, program, 4)
        self.assertIsInstance(loss, Loss)
        self.assertEqual(cause_fault(book, program, 4, Real((0,), 2)), "run")
        self.assertEqual(cause_fault(book, program, 4, Real((7,), 2)), "choices")
        self.assertIsNone(cause_fault(book, program, 4, loss))

    def test_runs_that_do_not_fail_there(self):
        rows = (("either", (("stop",),), ()), ("while", 0, ("below", 2), (("either", (plus(1),), ()),)),
                ("need", 0, ("below", 2)))
        program = Program([("main", 1, rows)])
        book = rough_book(program)
        self.assertEqual(alarm_cause(book, program, 5), Real((1, 0, 0), 2))
        for choices in ((), (0,), (0, 0, 0)):
            self.assertEqual(cause_fault(book, program, 5, Real(choices, 2)), "run")
        # With the fuel of 5,000 the loop does not end.
        self.assertEqual(cause_fault(book, program, 5, Real((1,) * 5000, 2)), "run")
        self.assertIsNone(cause_fault(book, program, 5, Real((1, 1, 1, 0, 1, 0), 2)))

    def test_runs_out_of_fuel_at_the_need(self):
        loop = ("while", 0, ("rest", 1, 0), (("need", 0, ("below", 1)), ("either", (plus(1),), ())))
        program = Program([("main", 1, (loop,))])
        one = run_program(program, (1,) * 2000, 5000)
        self.assertEqual((one.end, one.steps[-1][2]), ("fuel", 1))
        self.assertEqual(cause_fault(rough_book(program), program, 1, Real((1,) * 2000, 0)), "run")
        self.assertEqual(cause_fault(rough_book(program), program, 1, Real((1,) * 2000, 1)), "run")
        self.assertIsNone(cause_fault(rough_book(program), program, 1, Real((), 1)))

    def test_losses(self):
        program = Program([("main", 1, (plus(1), ("need", 0, ("is", 1))))])
        book = sign_book(tests=(("is", 1),), so=((0, 0, 2, 2),), not_so=((0, 1, 2, 3),))
        for cause, word in ((Loss(1, 2), None), (Loss(1, 3), "number"), (Loss(0, 2), "line"), (Loss(2, 3), "line"),
                            (Loss(None, None), "line"), (Loss(1, None), "number"), (Loss(99, 9), "line")):
            self.assertEqual(cause_fault(book, program, 1, cause), word)
        program = Program([("main", 1, (("need", 0, ("is", 0)),))])
        book = rough_book(program, just_lot([0]))
        for cause, word in ((Loss(None, None), None), (Loss(0, None), "line"), (Loss(None, 0), "number")):
            self.assertEqual(cause_fault(book, program, 0, cause), word)

    def test_changed_causes(self):
        rng = random.Random(273)
        for _ in range(60):
            program = loop_program(rng)
            book = loop_book(rng)
            for place, cause in alarm_causes(book, program):
                if isinstance(cause, Real):
                    changed = ((Real(cause.choices, cause.number + 1), "number"), (Loss(0, 0), "real"),
                               (Real((*cause.choices, 2), cause.number), "choices"))
                else:
                    changed = ((Loss(-1, cause.number), "line"), (Loss(cause.line, 999), "number"),
                               (Real((), 0), "run"))
                for other, word in changed:
                    self.assertEqual(cause_fault(book, program, place, other), word)


class QuietTest(unittest.TestCase):
    def test_books_that_never_lie_are_never_quiet_where_a_run_fails(self):
        rng = random.Random(274)
        failed = 0
        for _ in range(150):
            book = sound_book(rng, nones=rng.choice((0, 0.2)))
            words = ("deed", "deed", "need", "need", "if", "either", "while", "call")
            program = random_program(rng, book, words=words)
            run = run_program(program, [rng.randrange(2) for _ in range(9)], 60)
            if run.end == "failed":
                failed += 1
                last = len(run.steps) - 1
                for treatment in TREATMENTS:
                    answer = answer_program(book, program, treatment)
                    node = node_of_calls(book, program, answer, open_calls(run, last))
                    self.assertIn((node, run.steps[last][2]), answer.node_alarms)
        self.assertGreater(failed, 20)


class ResultTest(unittest.TestCase):
    def test_results(self):
        real = Real([0, 1], 3)
        self.assertEqual((real.choices, real.number), ((0, 1), 3))
        self.assertEqual(real, Real((0, 1), 3))
        for other in (Real((0,), 3), Real((0, 1), 4), Loss((0, 1), 3), None):
            self.assertNotEqual(real, other)
        loss = Loss(4, -1)
        self.assertEqual((loss.line, loss.number), (4, -1))
        self.assertEqual(loss, Loss(4, -1))
        for other in (Loss(3, -1), Loss(4, 1), Loss(None, None), Real((), -1), (4, -1)):
            self.assertNotEqual(loss, other)


if __name__ == "__main__":
    unittest.main()
