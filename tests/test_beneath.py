"""The numbers beneath told words [11.4] and [11.5]."""

import random
import unittest

from randoms import random_book, random_program
from support import chain_book, error_of, evens, met_couples, odds, parity_book, sign_book
from truebooks.beneath import beneath_lots, word_machine
from truebooks.books import Book
from truebooks.calls import answer_program, node_of_calls, row_told
from truebooks.letters import do_letter, lot_after, lot_of_test, passes
from truebooks.lots import (
    both_lot, empty_lot, just_lot, less_lot, lot_members, range_lot, whole_lot, within,
)
from truebooks.runs import open_calls, run_program
from truebooks.told import told_words

TREATMENTS = ("entry", ("callers", 3), ("callers", 2), ("callers", 1), "one")
LIMIT = 40


def plain_couples(book):
    """The couples with numbers from -LIMIT to LIMIT that such numbers lead to."""
    told = told_words(book)
    couples = {(book.first, 0)}
    waiting = [(book.first, 0)]
    while waiting:
        word, number = waiting.pop()
        more = [(row[word], do_letter(letter, number)) for row, letter in zip(book.deeds, book.letters)]
        for at, test in enumerate(book.tests):
            side = book.so if passes(test, number) else book.not_so
            more.append((side[at][word], number))
        more.extend((book.joins[word][other], number) for other in told)
        for couple in more:
            if couple not in couples and abs(couple[1]) <= LIMIT:
                couples.add(couple)
                waiting.append(couple)
    return couples


class LotsTest(unittest.TestCase):
    def test_the_examples(self):
        from_zero = both_lot(evens(), range_lot(0, None))
        odd = both_lot(odds(), range_lot(0, None))
        self.assertEqual(beneath_lots(parity_book()), (empty_lot(), from_zero, odd, range_lot(0, None)))
        # The meanings do not matter.
        book = parity_book(meanings=(empty_lot(), just_lot([0]), odds(), whole_lot()))
        self.assertEqual(beneath_lots(book)[1], from_zero)
        self.assertEqual(beneath_lots(sign_book()), (empty_lot(), just_lot([0]), range_lot(1, None), whole_lot()))

    def test_zero_beneath_first_and_nothing_beneath_what_is_not_told(self):
        rng = random.Random(118)
        for _ in range(60):
            book = random_book(rng, nones=0.3)
            lots = beneath_lots(book)
            self.assertEqual(len(lots), book.many)
            self.assertIn(0, lots[book.first])
            told = told_words(book)
            for word in range(1, book.many):
                self.assertTrue(word in told or lots[word].bare)

    def test_none_is_a_station(self):
        # A test that 0 passes leads to NONE; then every number stands with every word.
        book = parity_book(tests=(("is", 0),), so=((0, 0, 0, 0),), not_so=((0, 1, 2, 3),))
        lots = beneath_lots(book)
        self.assertEqual(lots[0], range_lot(0, None))
        self.assertEqual(lots, (lots[0],) * 4)
        # Behind NONE tests and letters leave it NONE, and joins bring any told word.
        book = parity_book(deeds=((0, 1, 1, 1), (0, 0, 0, 3)))
        self.assertEqual(told_words(book), (1,))
        self.assertEqual(beneath_lots(book), (range_lot(0, None), range_lot(0, None), empty_lot(), empty_lot()))

    def test_against_plain_couples(self):
        rng = random.Random(119)
        for _ in range(60):
            book = random_book(rng, nones=rng.choice((0, 0.2, 0.5)), letters=rng.randint(1, 4))
            machine = word_machine(book)
            self.assertEqual(machine.stations, book.many)
            self.assertEqual(machine.starts, ((book.first, 0),))
            couples = plain_couples(book)
            self.assertEqual(met_couples(machine, LIMIT), couples)
            lots = beneath_lots(book)
            for word, number in couples:
                self.assertIn(number, lots[word])
            near = {(word, number) for word, lot in enumerate(lots) for number in lot_members(lot, -8, 8)}
            self.assertEqual(near, {couple for couple in couples if abs(couple[1]) <= 8})

    def test_moved_couples_stay_within(self):
        rng = random.Random(120)
        for _ in range(40):
            book = random_book(rng, nones=0.3, letters=4)
            lots = beneath_lots(book)
            told = told_words(book)
            for word in (0, *told):
                for row, letter in zip(book.deeds, book.letters):
                    self.assertIsNone(within(lot_after(letter, lots[word]), lots[row[word]]))
                for so, not_so, test in zip(book.so, book.not_so, book.tests):
                    passing = lot_of_test(test)
                    self.assertIsNone(within(both_lot(lots[word], passing), lots[so[word]]))
                    self.assertIsNone(within(less_lot(lots[word], passing), lots[not_so[word]]))
                for other in told:
                    self.assertIsNone(within(lots[word], lots[book.joins[word][other]]))

    def test_runs_stay_within(self):
        rng = random.Random(121)
        steps = nones = 0
        for _ in range(120):
            book = random_book(rng, nones=0.4)
            lots = beneath_lots(book)
            program = random_program(rng, book)
            run = run_program(program, [rng.randrange(2) for _ in range(9)], 60)
            for treatment in TREATMENTS:
                answer = answer_program(book, program, treatment)
                for at, (_, _, place, values) in enumerate(run.steps):
                    node = node_of_calls(book, program, answer, open_calls(run, at))
                    row = None if node is None else row_told(answer, node, place)
                    for variable, number in enumerate(values):
                        word = 0 if row is None else row[variable]
                        self.assertIn(number, lots[word])
                        steps += 1
                        nones += word == 0
        self.assertGreater(steps, 1000)
        self.assertGreater(nones, 100)

    def test_large_books(self):
        many = 12
        joins = [[max(a, b) for b in range(many)] for a in range(many)]
        letters = [("set", 0), ("add", 1), ("add", -1), ("turn",), ("mod", 6), ("mod", 5), ("set", 20),
                   ("add", 20), ("add", -20), ("mod", 4)]
        tests = [("below", 20), ("is", -20), ("rest", 6, 1), ("rest", 5, 1), ("below", 0), ("is", 3)]
        up = [0] + [min(word + 1, many - 1) for word in range(1, many)]
        same = list(range(many))
        book = Book(letters, tests, joins, chain_book(many).meanings, [same] + [up] * 9, [same] * 6,
                    [up] * 6, 1)
        lots = beneath_lots(book)
        self.assertEqual(told_words(book), tuple(range(1, many)))
        self.assertIn(0, lots[1])
        self.assertEqual(lots[many - 1], whole_lot())

    def test_what_reach_raises(self):
        letters = [("set", 0), ("add", 19), ("add", -17), ("mod", 6), ("mod", 5), ("mod", 4)]
        book = Book(letters, [], ((0, 1), (1, 1)), (empty_lot(), whole_lot()), [(0, 1)] * 6, (), (), 1)
        self.assertIsNone(error_of(beneath_lots, book))
        self.assertEqual(beneath_lots(book)[1], whole_lot())


if __name__ == "__main__":
    unittest.main()
