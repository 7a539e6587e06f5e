"""Gaps, lots that show that a book never lies, tight books [14.1] to [14.4]."""

import random
import unittest

from randoms import random_book, random_program, remade, sound_book, told_meanings
from support import TREATMENTS, error_of, evens, odds, parity_book, ring_book, sign_book
from truebooks.beneath import beneath_lots
from truebooks.calls import answer_program
from truebooks.covering import all_gaps, first_gap, meanings_fault, tight_book
from truebooks.letters import do_letter, passes
from truebooks.lies import Lies, NeverLies, verdict
from truebooks.lots import (
    both_lot, either_lot, empty_lot, just_lot, less_lot, lot_members, range_lot, whole_lot, within,
)
from truebooks.told import told_words

FAR = 200


def plain_steps(book):
    """The steps in order, each with its row and what it makes of a list of numbers."""
    def doing(letter):
        return lambda numbers: [do_letter(letter, n) for n in numbers]

    def holding(test, holds):
        return lambda numbers: [n for n in numbers if passes(test, n) == holds]

    steps = [(("deed", letter), row, doing(letter)) for letter, row in zip(book.letters, book.deeds)]
    for test, so, not_so in zip(book.tests, book.so, book.not_so):
        steps += [(("so", test), so, holding(test, True)), (("not", test), not_so, holding(test, False))]
    return steps


def least(numbers):
    return min(numbers, key=lambda n: (abs(n), n), default=None)


def plain_gaps(book):
    """The gaps, by looking at all numbers that are not far out."""
    gaps = []
    if 0 not in book.meanings[book.first]:
        gaps.append((("first",), book.first, 0))
    for step, row, made in plain_steps(book):
        for word in range(book.many):
            numbers = made(lot_members(book.meanings[word], -FAR, FAR))
            number = least([n for n in numbers if n not in book.meanings[row[word]]])
            if number is not None:
                gaps.append((step, word, number))
    return tuple(gaps)


class GapsTest(unittest.TestCase):
    def test_books_that_cover(self):
        for book in (parity_book(), sign_book()):
            self.assertEqual(all_gaps(book), ())
            self.assertIsNone(first_gap(book))

    def test_by_hand(self):
        book = parity_book(meanings=(empty_lot(), just_lot([-4, 4, 8]), odds(), whole_lot()))
        # 0 is not in the first word's meaning; adding 1 makes -3 of -4, and any odd number even.
        self.assertEqual(all_gaps(book), ((("first",), 1, 0), (("deed", ("set", 0)), 1, 0),
                                          (("deed", ("set", 0)), 2, 0), (("deed", ("set", 0)), 3, 0),
                                          (("deed", ("add", 1)), 2, 0)))
        self.assertEqual(first_gap(book), (("first",), 1, 0))
        book = sign_book(so=((0, 1, 0, 1), (0, 1, 0, 1)), not_so=((0, 0, 2, 2), (0, 0, 2, 2)))
        self.assertEqual(all_gaps(book), ((("not", ("is", 0)), 3, -1), (("so", ("below", 1)), 3, -1)))
        self.assertEqual(first_gap(book), (("not", ("is", 0)), 3, -1))
        # NONE has no numbers; words that lead to NONE have gaps.
        book = parity_book(deeds=((0, 1, 1, 1), (0, 0, 0, 0)))
        self.assertEqual(all_gaps(book), ((("deed", ("add", 1)), 1, -1), (("deed", ("add", 1)), 2, 0),
                                          (("deed", ("add", 1)), 3, 0)))

    def test_random_books(self):
        rng = random.Random(241)
        many = 0
        for _ in range(120):
            book = random_book(rng, nones=rng.choice((0, 0.3)), letters=rng.randint(1, 5))
            gaps = all_gaps(book)
            self.assertEqual(gaps, plain_gaps(book))
            self.assertEqual(first_gap(book), gaps[0] if gaps else None)
            many += len(gaps)
            if not gaps:
                self.assertIsInstance(verdict(book), NeverLies)
        self.assertGreater(many, 300)

    def test_gaps_of_books_that_never_lie(self):
        rng = random.Random(242)
        places = {True: 0, False: 0}
        for _ in range(60):
            book = sound_book(rng, nones=0.1)
            if rng.random() < 0.5:
                # More numbers in the meanings: gaps at told words that no number beneath them meets.
                wider = [either_lot(lot, just_lot([7])) if at else lot for at, lot in enumerate(book.meanings)]
                book = remade(book, meanings=wider)
            lots = beneath_lots(book)
            steps = {step: (row, made) for step, row, made in plain_steps(book)}
            for step, word, number in all_gaps(book):
                told = word in told_words(book)
                places[told] += 1
                if told:
                    row, made = steps[step]
                    behind = book.meanings[row[word]]
                    for n in made(lot_members(lots[word], -FAR, FAR)):
                        self.assertIn(n, behind)
        self.assertGreater(min(places.values()), 5)


class FaultTest(unittest.TestCase):
    def test_no_lots(self):
        book = parity_book()
        good = beneath_lots(book)
        for lots in (None, {}, "lots", 3, (), good[:3], (*good, empty_lot()), (*good[:3], None), (*good[:3], (1,)),
                     [*good[:3], 0]):
            self.assertEqual(meanings_fault(book, lots), ("form", 0, 0))
        self.assertIsNone(meanings_fault(book, good))
        self.assertIsNone(meanings_fault(book, list(good)))
        self.assertIsNone(meanings_fault(book, book.meanings))

    def test_each_fault_in_its_order(self):
        book = parity_book()
        none, even, odd, every = book.meanings
        cases = (
            ((just_lot([-2, 2]), even, odd, every), ("outside", 0, -2)),
            ((none, either_lot(even, just_lot([3, -5])), even, every), ("outside", 1, 3)),
            ((none, even, either_lot(odd, just_lot([4, -4])), every), ("outside", 2, -4)),
            ((none, less_lot(even, just_lot([0])), odd, every), ("first", 1, 0)),
            ((none, just_lot([0]), empty_lot(), every), (("deed", ("add", 1)), 1, 1)),
            ((none, even, less_lot(odd, just_lot([1, 7])), every), (("deed", ("add", 1)), 1, 1)),
            ((none, even, less_lot(odd, just_lot([-7, 7])), every), (("deed", ("add", 1)), 1, -7)),
            ((none, less_lot(even, just_lot([4])), less_lot(odd, just_lot([5])), every),
             (("deed", ("add", 1)), 2, 4)),
            # What is led out comes ahead of what is joined.
            ((none, even, odd, range_lot(1, None)), (("join", 2), 1, 0)),
            ((none, even, odd, range_lot(0, None)), (("join", 2), 1, -2)),
            ((none, even, odd, less_lot(every, just_lot([3]))), (("deed", ("add", 1)), 3, 3)),
        )
        for lots, fault in cases:
            self.assertEqual(meanings_fault(book, lots), fault)

    def test_joins(self):
        # Every step leads all to the word any, so its lot alone must be shut under them.
        book = parity_book(deeds=((0, 1, 1, 1), (0, 2, 2, 3)), letters=(("set", 0), ("set", 5)))
        self.assertEqual(told_words(book), (1, 2, 3))
        wide = remade(book, meanings=(empty_lot(), *[whole_lot()] * 3))
        lots = (empty_lot(), just_lot([0, 4, -4]), just_lot([5, 6]), just_lot([0, 5, 6, -4]))
        self.assertEqual(meanings_fault(wide, lots), (("join", 2), 1, 4))
        lots = (empty_lot(), just_lot([0, 4]), just_lot([5, 6]), just_lot([0, 5, 4]))
        self.assertEqual(meanings_fault(wide, lots), (("join", 1), 2, 6))
        lots = (empty_lot(), just_lot([0, 4]), just_lot([5, 6]), just_lot([0, 4, 5, 6, 9]))
        self.assertIsNone(meanings_fault(wide, lots))

    def test_all_steps_at_once(self):
        book = sign_book()
        none, zero, ups, every = book.meanings
        self.assertIsNone(meanings_fault(book, (none, zero, ups, every)))
        self.assertEqual(meanings_fault(book, (none, zero, empty_lot(), every)), (("deed", ("add", 1)), 1, 1))
        lots = (none, zero, just_lot([1]), every)
        self.assertEqual(meanings_fault(book, lots), (("deed", ("add", 1)), 2, 2))
        lots = (none, zero, ups, less_lot(every, just_lot([-3])))
        self.assertEqual(meanings_fault(book, lots), (("deed", ("add", 1)), 3, -3))
        lots = (none, zero, ups, range_lot(0, None))
        self.assertEqual(meanings_fault(book, lots), (("deed", ("turn",)), 2, -1))
        quiet = sign_book(deeds=((0, 1, 1, 1), (0, 3, 3, 3), (0, 3, 3, 3), (0, 3, 3, 3)))
        self.assertEqual(meanings_fault(quiet, (none, zero, empty_lot(), every)), (("not", ("below", 1)), 3, 1))
        self.assertEqual(meanings_fault(quiet, (none, zero, range_lot(5, None), every)),
                         (("not", ("below", 1)), 3, 1))

    def test_words_that_are_not_told_are_not_looked_at(self):
        book = parity_book(deeds=((0, 1, 1, 1), (0, 1, 2, 3)), letters=(("set", 0), ("add", 2)))
        self.assertIsNone(meanings_fault(book, (empty_lot(), evens(), evens(), just_lot([5]))))
        self.assertEqual(meanings_fault(book, (just_lot([1]), evens(), evens(), just_lot([5]))), ("outside", 0, 1))

    def test_lots_at_the_bounds(self):
        book = parity_book(deeds=((0, 1, 1, 1), (0, 1, 1, 1)), meanings=(empty_lot(), *[whole_lot()] * 3))
        lots = (empty_lot(), range_lot(-20000, 20000), empty_lot(), empty_lot())
        self.assertEqual(meanings_fault(book, lots), (("deed", ("add", 1)), 1, 20001))
        self.assertIsNone(meanings_fault(book, (empty_lot(), range_lot(-20000, None), empty_lot(), empty_lot())))

    def test_the_lots_beneath_are_the_least(self):
        rng = random.Random(243)
        faults = set()
        for _ in range(80):
            book = random_book(rng, nones=rng.choice((0, 0, 0.2)), letters=rng.randint(1, 4))
            lots = beneath_lots(book)
            found = verdict(book)
            fault = meanings_fault(book, lots)
            self.assertEqual(fault is None, isinstance(found, NeverLies))
            if isinstance(found, Lies):
                self.assertEqual(fault[0], "outside")
                # No other lots will do.
                for other in (book.meanings, [both_lot(a, b) for a, b in zip(lots, book.meanings)]):
                    self.assertIsNotNone(meanings_fault(book, other))
                continue
            for word in told_words(book):
                for number in lot_members(lots[word], -6, 6):
                    less = list(lots)
                    less[word] = less_lot(lots[word], just_lot([number]))
                    fault = meanings_fault(book, less)
                    self.assertIsNotNone(fault)
                    faults.add(fault[0][0] if isinstance(fault[0], tuple) else fault[0])
            wider = [either_lot(lot, just_lot([50])) if at else lot for at, lot in enumerate(lots)]
            if meanings_fault(book, wider) is None:
                for one, other in zip(lots, wider):
                    self.assertIsNone(within(one, other))
        self.assertLessEqual({"first", "deed", "join"}, faults)


class TightTest(unittest.TestCase):
    def test_books_that_never_lie(self):
        rng = random.Random(244)
        tighter = 0
        for _ in range(40):
            book = sound_book(rng, nones=rng.choice((0, 0.2)))
            wide = remade(book, meanings=[empty_lot()] + [whole_lot()] * (book.many - 1))
            tight = tight_book(wide)
            self.assertEqual(tight.meanings, tuple(told_meanings(book)))
            self.assertEqual(remade(tight, meanings=wide.meanings), wide)
            tighter += tight != wide
            self.assertIsInstance(verdict(tight), NeverLies)
            words = told_words(tight)
            self.assertFalse([gap for gap in all_gaps(tight) if gap[1] in words])
            program = random_program(rng, book)
            for treatment in TREATMENTS:
                self.assertEqual(answer_program(tight, program, treatment), answer_program(wide, program, treatment))
            self.assertEqual(tight_book(tight), tight)
        self.assertGreater(tighter, 20)

    def test_by_hand(self):
        tight = tight_book(parity_book())
        ups = range_lot(0, None)
        self.assertEqual(tight.meanings, (empty_lot(), both_lot(evens(), ups), both_lot(odds(), ups), ups))
        # Words that are never told have what is beneath told words below them.
        book = parity_book(deeds=((0, 1, 1, 1), (0, 1, 2, 3)), letters=(("set", 0), ("add", 2)))
        self.assertEqual(tight_book(book).meanings, (empty_lot(), both_lot(evens(), ups), empty_lot(),
                                                     both_lot(evens(), ups)))

    def test_errors_in_their_order(self):
        self.assertEqual(error_of(tight_book, ring_book(3, 5, [("mod", 2)])), ("TooLong", 10080))
        self.assertEqual(error_of(tight_book, ring_book(5, 4, [("mod", 3)])), ("TooLong", 2000))
        self.assertEqual(error_of(tight_book, parity_book(first=2)), ("StillLies",))
        lying = parity_book(tests=(("is", 2),), so=((0, 0, 0, 0),), not_so=((0, 1, 2, 3),))
        self.assertEqual(error_of(tight_book, lying), ("StillLies",))
        # Words of the rings have lots of their own modulus, 95 and 68.
        book = ring_book(5, 4)
        self.assertEqual(error_of(tight_book, book), ("BadBook", "meanings", 2))
        # That a book lies comes ahead of its meanings.
        book = remade(book, meanings=(empty_lot(), just_lot([1]), *[whole_lot()] * (book.many - 2)))
        self.assertEqual(error_of(tight_book, book), ("StillLies",))


if __name__ == "__main__":
    unittest.main()
