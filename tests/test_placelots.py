"""Plain programs, the lots of their places, and exact books [15.1], [15.2], [15.6], [15.8]."""

import random
import unittest

from plain import ADD, COUNT, NEED, long_programs, plain_states, rows_of, unfit_programs
from randoms import loop_program, plain_program, random_book
from support import error_of, evens, parity_book, sign_book
from truebooks.bestbook import best_book, lots_book
from truebooks.books import Book
from truebooks.calls import answer_program
from truebooks.covering import first_gap
from truebooks.exactbook import exact_book
from truebooks.letters import passes
from truebooks.lies import NeverLies, verdict
from truebooks.lots import both_lot, empty_lot, just_lot, lot_members, make_lot, range_lot, whole_lot
from truebooks.placelots import failing_lot, place_lots
from truebooks.programs import Program
from truebooks.runs import all_runs

class PlainTest(unittest.TestCase):
    def test_unfit_programs(self):
        for program, what in unfit_programs():
            self.assertEqual(error_of(place_lots, program), ("Unfit", what))
            self.assertEqual(error_of(failing_lot, program, None), ("Unfit", what))
            self.assertEqual(error_of(exact_book, parity_book(), program), ("Unfit", what))
        self.assertIsNone(error_of(place_lots, Program([("m", 1, (ADD,) * 60)])))
        self.assertIsNone(error_of(place_lots, Program([("m", 1, ())])))

    def test_the_example(self):
        self.assertEqual(place_lots(COUNT), (range_lot(0, 3), range_lot(0, 2), just_lot([3]), just_lot([3])))
        self.assertEqual(failing_lot(COUNT, 2), empty_lot())

    def test_by_hand(self):
        self.assertEqual(place_lots(Program([("m", 1, ())])), (just_lot([0]),))
        program = Program([("m", 1, (("stop",), ADD))])
        self.assertEqual(place_lots(program), (just_lot([0]), empty_lot(), empty_lot()))
        loop = ("while", 0, ("below", 20), (("either", (("deed", 0, ("add", 2)),), (("deed", 0, ("turn",)),)),))
        program = Program([("m", 1, (loop, ("copy", 0, 0), ("need", 0, ("is", 20))))])
        lots = place_lots(program)
        self.assertEqual(lots[0], both_lot(evens(), range_lot(-18, 20)))
        self.assertEqual(lots[1], both_lot(evens(), range_lot(-18, 18)))
        self.assertEqual(lots[4:], (just_lot([20]),) + (just_lot([20]),) * 2)

    def test_against_plain_states(self):
        rng = random.Random(261)
        loops = 0
        for case in range(200):
            book = random_book(rng, letters=rng.randint(2, 5), tests=rng.randint(1, 3))
            program = plain_program(rng, book) if case % 4 == 0 else loop_program(rng)
            lots = place_lots(program)
            places = rows_of(program)
            self.assertEqual(len(lots), len(places) + 1)
            states = plain_states(program)
            for place, number in states:
                self.assertIn(number, lots[place])
            near = {(place, number) for place, lot in enumerate(lots) for number in lot_members(lot, -9, 9)}
            self.assertEqual(near, {(place, number) for place, number in states if abs(number) <= 9})
            loops += any(lot.ups or lot.downs for lot in lots)
            for place, (row, _) in enumerate(places):
                if row[0] == "need":
                    failing = failing_lot(program, place)
                    want = tuple(n for n in range(-200, 201) if n in lots[place] and not passes(row[2], n))
                    self.assertEqual(lot_members(failing, -200, 200), want)
        self.assertGreater(loops, 10, loops)

    def test_no_needs(self):
        for place in (0, 1, 3, 4, -1, True, None, "2", (2,), [2], 10 ** 9, {}):
            self.assertEqual(error_of(failing_lot, COUNT, place), ("NoNeed", place))
        self.assertEqual(error_of(failing_lot, Program([("m", 1, (NEED, NEED))]), True), ("NoNeed", True))
        self.assertEqual(failing_lot(Program([("m", 1, (NEED, NEED))]), 0), just_lot([0]))

    def test_too_long(self):
        for program, most in long_programs():
            want = None if most is None else ("TooLong", most)
            self.assertEqual(error_of(place_lots, program), want)
            need = len(rows_of(program)) - 1
            self.assertEqual(error_of(failing_lot, program, need), want)
            self.assertEqual(error_of(failing_lot, program, 0), ("NoNeed", 0))


class ExactTest(unittest.TestCase):
    def any_book(self, program):
        """A book with the program's alphabet, and with words of no worth."""
        letters, tests = alphabet(program)
        return Book(letters, tests, ((0, 1), (1, 1)), (empty_lot(), whole_lot()), [(0, 1)] * len(letters),
                    [(0, 1)] * len(tests), [(0, 1)] * len(tests), 1)

    def test_the_example(self):
        book = Book((("set", 0), ("add", 1)), (("below", 3), ("is", 3)), ((0, 1, 2), (1, 1, 2), (2, 2, 2)),
                    (empty_lot(), just_lot([0]), whole_lot()), ((0, 1, 1), (0, 2, 2)), ((0, 1, 2),) * 2,
                    ((0, 1, 2),) * 2, 1)
        best = best_book(book)
        self.assertEqual(answer_program(best, COUNT, "entry").alarm_places, (("main", 2),))
        self.assertFalse([run for run in all_runs(COUNT, 60) if run.end == "failed"])
        exact = exact_book(best, COUNT)
        self.assertEqual(exact.meanings, (empty_lot(), whole_lot(), range_lot(0, 3), range_lot(0, 2), just_lot([3])))
        self.assertEqual(answer_program(exact, COUNT, "entry").alarm_places, ())

    def test_random_programs(self):
        rng = random.Random(262)
        exact_ones = large = alarms = 0
        for case in range(300):
            program = plain_program(rng, random_book(rng)) if case % 4 == 0 else loop_program(rng)
            book = self.any_book(program)
            lots = place_lots(program)
            error = error_of(exact_book, book, program)
            if error is not None:
                large += 1
                self.assertEqual(error_of(lots_book, book, lots), error)
                continue
            exact_ones += 1
            exact = exact_book(book, program)
            self.assertEqual(exact, lots_book(book, lots))
            self.assertIsInstance(verdict(exact), NeverLies)
            self.assertIsNone(first_gap(exact))
            answer = answer_program(exact, program, "entry")
            for lot, row in zip(lots, answer.tables[0]):
                self.assertEqual(row, None if lot.bare else (exact.meanings.index(lot),))
            failing = {(program.main, place) for place, (row, _) in enumerate(rows_of(program))
                       if row[0] == "need" and not failing_lot(program, place).bare}
            self.assertEqual(set(answer.alarm_places), failing)
            alarms += len(failing)
        self.assertGreater(min(exact_ones, 5 * large, alarms), 10, (exact_ones, large, alarms))

    def test_errors_in_their_order(self):
        strange = Program([("main", 1, (("call", "main", (), 0), ("deed", 0, ("set", 1))))])
        self.assertEqual(error_of(exact_book, parity_book(), strange), ("OtherAlphabet",))
        self.assertEqual(error_of(exact_book, parity_book(), COUNT), ("OtherAlphabet",))
        for program, most in long_programs()[1:]:
            self.assertEqual(error_of(exact_book, self.any_book(program), program), ("TooLong", most))
            self.assertEqual(error_of(exact_book, sign_book(), program), ("OtherAlphabet",))
        # The places have thirteen numbers, each by itself.
        steps = Program([("main", 1, (ADD,) * 12)])
        self.assertEqual(error_of(exact_book, self.any_book(steps), steps), ("TooLarge", 12))
        steps = Program([("main", 1, (("deed", 0, ("set", 0)), *(ADD,) * 9, ("stop",)))])
        self.assertEqual(exact_book(self.any_book(steps), steps).many, 12)
        far = Program([("main", 1, (("deed", 0, ("add", 20)),) * 11 + (("deed", 0, ("set", 0)),))])
        self.assertEqual(error_of(exact_book, self.any_book(far), far)[0], "TooLarge")
        far = Program([("main", 1, (("while", 0, ("rest", 1, 0), (("deed", 0, ("mod", 4)),) + (("deed", 0, ("add", 20)),)
                                     * 11),))])
        self.assertIn(error_of(exact_book, self.any_book(far), far)[0], ("TooLarge", "BadBook"))
        ring = ("while", 0, ("rest", 1, 0), (ADD,) * 31)
        lots = [make_lot(0, -1, (), 61, (0,), ())]
        self.assertEqual(error_of(lots_book, parity_book(), lots), ("BadBook", "meanings", 2))
        self.assertEqual(error_of(exact_book, self.any_book(Program([("main", 1, (ring,))])),
                                  Program([("main", 1, (ring,))])), ("TooLarge", 12))


def alphabet(program):
    letters = [("set", 0)]
    tests = []
    for row, _ in rows_of(program):
        if row[0] == "deed" and row[2] not in letters:
            letters.append(row[2])
        if row[0] in ("need", "if", "while") and row[2] not in tests:
            tests.append(row[2])
    return letters, tests


if __name__ == "__main__":
    unittest.main()
