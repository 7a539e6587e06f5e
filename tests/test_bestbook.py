"""Best tables, covered books, books of lots, and mends [14.5] to [14.8]."""

import itertools
import random
import unittest

from randoms import random_book, random_program, remade, rising_row
from support import TREATMENTS, error_of, evens, odds, parity_book, ring_book, sign_book
from truebooks.bestbook import best_book, covered_book, least_word, lots_book
from truebooks.books import Book
from truebooks.calls import answer_program, joined_row
from truebooks.covering import all_gaps, first_gap
from truebooks.lies import NeverLies, verdict
from truebooks.lots import (
    both_lot, either_lot, empty_lot, just_lot, less_lot, make_lot, moved_lot, range_lot, whole_lot, within,
)
from truebooks.letters import lot_after, lot_of_test
from truebooks.mends import least_mends
from truebooks.places import place_count
from truebooks.rows import row_at_most
from truebooks.tables import at_most, raised_book


def made(step, lot):
    """What a step makes of a lot."""
    kind, item = step
    if kind == "deed":
        return lot_after(item, lot)
    return both_lot(lot, lot_of_test(item)) if kind == "so" else less_lot(lot, lot_of_test(item))


def steps_of(book):
    steps = [("deed", letter) for letter in book.letters]
    return steps + [(kind, test) for test in book.tests for kind in ("so", "not")]


def row_of(book, step):
    kind, item = step
    if kind == "deed":
        return book.deeds[book.letters.index(item)]
    return (book.so if kind == "so" else book.not_so)[book.tests.index(item)]


def plain_least(book, lot):
    """The least of the words whose meaning holds a lot, by going through all."""
    holders = [word for word in range(book.many) if within(lot, book.meanings[word]) is None]
    least = [word for word in holders if all(book.joins[word][other] == other for other in holders)]
    return least[0] if least else None


def with_top(rng, book, chance=0.8):
    """The book with a top that means all numbers, most often."""
    meanings = list(book.meanings)
    if rng.random() < chance:
        meanings[book.top] = whole_lot()
    return remade(book, meanings=meanings)


class LeastWordTest(unittest.TestCase):
    def test_by_hand(self):
        book = sign_book()
        for lot, word in ((empty_lot(), 0), (just_lot([0]), 1), (just_lot([5]), 2), (range_lot(1, None), 2),
                          (range_lot(0, None), 3), (just_lot([-1]), 3), (whole_lot(), 3)):
            self.assertEqual(least_word(book, lot), word)
        narrow = sign_book(meanings=(empty_lot(), just_lot([0]), range_lot(1, None), range_lot(0, None)))
        self.assertIsNone(least_word(narrow, just_lot([-1])))
        # Two words hold the lot, neither of them at most the other.
        twins = parity_book(meanings=(empty_lot(), range_lot(0, 4), range_lot(3, 9), whole_lot()))
        self.assertIsNone(least_word(twins, just_lot([3, 4])))
        self.assertEqual(least_word(twins, just_lot([2, 4])), 1)
        # Words that mean the same: the lesser one.
        same = parity_book(meanings=(empty_lot(), evens(), whole_lot(), whole_lot()))
        self.assertEqual(least_word(same, odds()), 2)

    def test_an_empty_lot(self):
        book = parity_book(meanings=[empty_lot()] * 4)
        self.assertEqual(least_word(book, empty_lot()), 0)
        self.assertIsNone(least_word(book, just_lot([0])))

    def test_random_books(self):
        rng = random.Random(251)
        for _ in range(60):
            book = with_top(rng, random_book(rng))
            for lot in (*book.meanings, just_lot([rng.randint(-3, 3)]), evens(), moved_lot(evens(), 1)):
                self.assertEqual(least_word(book, lot), plain_least(book, lot))


class BestTest(unittest.TestCase):
    def test_the_examples(self):
        self.assertEqual(best_book(parity_book(deeds=((0, 3, 3, 3), (0, 3, 3, 3)))), parity_book())
        self.assertEqual(best_book(sign_book()), sign_book(deeds=((0, 1, 1, 1), (0, 2, 2, 3), (0, 1, 3, 3),
                                                                  (0, 1, 3, 3))))
        best = best_book(parity_book(first=2))
        self.assertEqual(best.first, 1)

    def test_no_least(self):
        narrow = sign_book(meanings=(empty_lot(), just_lot([0]), range_lot(1, None), range_lot(0, None)))
        for function in (best_book, covered_book):
            self.assertEqual(error_of(function, narrow), ("NoLeast", ("deed", ("turn",)), 2))
            self.assertEqual(error_of(function, parity_book(meanings=[empty_lot()] * 4)), ("NoLeast", ("first",), 0))
            odd = parity_book(meanings=(empty_lot(), odds(), odds(), odds()))
            self.assertEqual(error_of(function, odd), ("NoLeast", ("first",), 0))
            zero = parity_book(meanings=(empty_lot(), just_lot([0]), just_lot([3]), just_lot([0, 3])))
            self.assertEqual(error_of(function, zero), ("NoLeast", ("deed", ("add", 1)), 1))
        # Tests come behind letters, "so" ahead of "not".
        parts = {"letters": (("set", 0),), "deeds": ((0, 1, 1, 1),), "tests": (("below", 5),)}
        twins = (empty_lot(), range_lot(0, 4), either_lot(range_lot(3, 4), range_lot(6, 9)), range_lot(0, 9))
        book = parity_book(**parts, meanings=twins, so=((0, 1, 2, 3),), not_so=((0, 1, 2, 3),))
        self.assertEqual(error_of(best_book, book), ("NoLeast", ("so", ("below", 5)), 2))
        book = parity_book(tests=(("below", 3),), letters=(("set", 0),), deeds=((0, 1, 1, 1),), meanings=twins,
                           so=((0, 1, 2, 3),), not_so=((0, 1, 2, 3),))
        self.assertEqual(error_of(best_book, book), ("NoLeast", ("not", ("below", 3)), 1))

    def test_random_books(self):
        rng = random.Random(252)
        best_ones = lacking = 0
        for _ in range(150):
            book = with_top(rng, random_book(rng, nones=rng.choice((0, 0.3)), letters=rng.randint(1, 4)))
            want = self.plain_fault(book)
            if want is not None:
                lacking += 1
                self.assertEqual(error_of(best_book, book), ("NoLeast", *want))
                self.assertEqual(error_of(covered_book, book), ("NoLeast", *want))
                continue
            best_ones += 1
            best = best_book(book)
            self.assertEqual((best.letters, best.tests, best.joins, best.meanings),
                             (book.letters, book.tests, book.joins, book.meanings))
            self.assertEqual(best.first, plain_least(book, just_lot([0])))
            for step in steps_of(book):
                want = tuple(plain_least(book, made(step, meaning)) for meaning in book.meanings)
                self.assertEqual(row_of(best, step), want)
            self.assertIsNone(first_gap(best))
            self.assertIsInstance(verdict(best), NeverLies)
            self.check_covered(rng, book, best)
        self.assertGreater(min(best_ones, lacking), 20)

    def plain_fault(self, book):
        if plain_least(book, just_lot([0])) is None:
            return (("first",), 0)
        for step in steps_of(book):
            for word in range(book.many):
                if plain_least(book, made(step, book.meanings[word])) is None:
                    return (step, word)
        return None

    def check_covered(self, rng, book, best):
        covered = covered_book(book)
        self.assertIsNone(first_gap(covered))
        self.assertEqual(covered.first, book.joins[book.first][best.first])
        for step in steps_of(book):
            want = tuple(book.joins[a][b] for a, b in zip(row_of(book, step), row_of(best, step)))
            self.assertEqual(row_of(covered, step), want)
        self.assertEqual(covered == book, not all_gaps(book) and at_most(book, best.first, book.first))
        self.assertEqual(covered_book(covered), covered)
        self.assertEqual(covered_book(best), best)
        # The best book tells no more than any covering one.
        for _ in range(2):
            program = random_program(rng, book)
            for treatment in TREATMENTS:
                low, high = answer_program(best, program, treatment), answer_program(covered, program, treatment)
                self.assertLessEqual(set(low.alarm_places), set(high.alarm_places))
                for name, _, _ in program.procedures:
                    for place in range(place_count(program, name) + 1):
                        self.assertTrue(row_at_most(book, joined_row(best, low, name, place),
                                                    joined_row(covered, high, name, place)))

    def test_no_covering_book_is_lower(self):
        rng = random.Random(253)
        covering = 0
        for _ in range(60):
            book = with_top(rng, random_book(rng, atoms=2, letters=2, tests=1), 1)
            if self.plain_fault(book) is not None:
                continue
            best = best_book(book)
            for _ in range(20):
                other = remade(book, deeds=[rising_row(rng, book.joins, 0) for _ in book.letters],
                               so=[rising_row(rng, book.joins, 0.3) for _ in book.tests],
                               not_so=[rising_row(rng, book.joins, 0.3) for _ in book.tests])
                if first_gap(other) is None:
                    covering += 1
                    self.assertTrue(at_most(book, best.first, other.first))
                    for step in steps_of(book):
                        for low, high in zip(row_of(best, step), row_of(other, step)):
                            self.assertTrue(at_most(book, low, high))
        self.assertGreater(covering, 10)


def plain_shared(lots):
    """The meanings that [14.7] tells, in order."""
    meanings = [empty_lot(), whole_lot()]
    for lot in lots:
        if lot not in meanings:
            elder = list(meanings)
            meanings.append(lot)
            for meaning in elder:
                shared = both_lot(lot, meaning)
                if shared not in meanings:
                    meanings.append(shared)
    return meanings


class LotsTest(unittest.TestCase):
    def test_no_lots(self):
        for lots in ((), [], [empty_lot()], [whole_lot()], [whole_lot(), empty_lot(), whole_lot()]):
            book = lots_book(sign_book(), lots)
            self.assertEqual(book.meanings, (empty_lot(), whole_lot()))
            self.assertEqual(book, Book(sign_book().letters, sign_book().tests, ((0, 1), (1, 1)), book.meanings,
                                        ((0, 1),) * 4, ((0, 1),) * 2, ((0, 1),) * 2, 1))

    def test_the_parity_book(self):
        book = lots_book(parity_book(), [evens(), odds(), evens()])
        self.assertEqual(book.meanings, (empty_lot(), whole_lot(), evens(), odds()))
        self.assertEqual(book.joins, ((0, 1, 2, 3), (1, 1, 1, 1), (2, 1, 2, 1), (3, 1, 1, 3)))
        self.assertEqual((book.first, book.deeds), (2, ((0, 2, 2, 2), (0, 1, 3, 2))))

    def test_what_lots_share(self):
        lots = [range_lot(0, None), evens(), range_lot(None, 4), just_lot([0, 2, 4])]
        book = lots_book(sign_book(), lots)
        ups = both_lot(evens(), range_lot(0, None))
        self.assertEqual(book.meanings, (empty_lot(), whole_lot(), lots[0], evens(), ups, lots[2],
                                         range_lot(0, 4), both_lot(evens(), lots[2]), lots[3]))

    def test_random_lots(self):
        rng = random.Random(254)
        sizes = set()
        for _ in range(80):
            book = random_book(rng, letters=rng.randint(1, 4))
            lots = []
            for _ in range(rng.randint(0, 4)):
                low = rng.randint(-5, 5)
                lots.append(rng.choice((range_lot(low, low + 3), range_lot(None, low), range_lot(low, None), evens(),
                                        odds(), just_lot([low]), make_lot(0, -1, (), 3, (low % 3,), (0,)))))
            meanings = plain_shared(lots)
            if len(meanings) > 12:
                self.assertEqual(error_of(lots_book, book, lots), ("TooLarge", 12))
                continue
            fresh = lots_book(book, lots)
            sizes.add(fresh.many)
            self.assertEqual(fresh.meanings, tuple(meanings))
            self.assertEqual((fresh.letters, fresh.tests), (book.letters, book.tests))
            for a, b in itertools.product(range(fresh.many), repeat=2):
                joined = either_lot(meanings[a], meanings[b])
                self.assertEqual(fresh.joins[a][b], plain_least(fresh, joined))
                self.assertEqual(at_most(fresh, a, b), within(meanings[a], meanings[b]) is None)
            self.assertEqual(best_book(fresh), fresh)
            self.assertIsNone(first_gap(fresh))
        self.assertGreater(max(sizes), 8)

    def test_twelve_and_thirteen_words(self):
        # Lots of a chain share nothing new.
        chain = [range_lot(0, end) for end in range(1, 11)]
        self.assertEqual(lots_book(parity_book(), chain).many, 12)
        more = [*chain, range_lot(0, 11)]
        self.assertEqual(error_of(lots_book, parity_book(), more), ("TooLarge", 12))
        self.assertEqual(lots_book(parity_book(), chain * 6).many, 12)

    def test_61_and_62_lots(self):
        self.assertEqual(lots_book(parity_book(), [evens()] * 61).many, 3)
        self.assertEqual(error_of(lots_book, parity_book(), [evens()] * 62), ("BadLots",))

    def test_errors_in_their_order(self):
        book = parity_book()
        for lots in (None, "lots", {}, 3, [None], [evens(), (0, 1)], [evens()] * 62, [evens(), 5],
                     [range_lot(0, end) for end in range(20)] + [None]):
            self.assertEqual(error_of(lots_book, book, lots), ("BadLots",))
        wide = range_lot(0, 201)
        self.assertEqual(error_of(lots_book, book, [wide] + [range_lot(0, end) for end in range(1, 11)]),
                         ("TooLarge", 12))
        self.assertEqual(error_of(lots_book, book, [evens(), wide]), ("BadBook", "meanings", 3))
        self.assertEqual(error_of(lots_book, book, [make_lot(0, -1, (), 61, (0,), ())]), ("BadBook", "meanings", 2))
        self.assertIsNone(error_of(lots_book, book, [range_lot(0, 200), make_lot(0, -1, (), 60, (0,), (1,))]))
        # Far lots are refused as meanings, though a letter would lead them beyond all bounds.
        self.assertEqual(error_of(lots_book, book, [range_lot(-5, 20000)]), ("BadBook", "meanings", 2))
        lots = [evens(), odds()]
        lots_book(book, lots)
        self.assertEqual(lots, [evens(), odds()])


class MendTest(unittest.TestCase):
    def plain_mends(self, book, pool):
        """The least selections that mend, by going through all of them."""
        mending = []
        for length in range(len(pool) + 1):
            for selection in itertools.combinations(range(len(pool)), length):
                try:
                    raised = raised_book(book, [pool[at] for at in selection])
                except ValueError:
                    continue
                if isinstance(verdict(raised), NeverLies):
                    mending.append(selection)
        return tuple(one for one in mending
                     if not any(set(other) < set(one) for other in mending))

    def test_by_hand(self):
        book = parity_book(deeds=((0, 1, 1, 1), (0, 1, 1, 3)))
        pool = [("deed", 1, 1, 3), ("deed", 1, 2, 3)]
        # The first one alone does not rise: O brings E and any is told as well.
        self.assertEqual(least_mends(book, pool), self.plain_mends(book, pool))
        self.assertEqual(least_mends(book, [("deed", 1, 1, 3)]), ((0,),))
        self.assertEqual(least_mends(parity_book(), [("deed", 1, 1, 3)]), ((),))
        self.assertEqual(least_mends(book, [["deed", 0, 1, 3]]), ())
        # Six raises are not too many.
        more = [("deed", 0, 1, 3), ("deed", 0, 2, 3), ("deed", 1, 1, 3), ("deed", 0, 3, 3), ("deed", 1, 2, 3)]
        self.assertEqual(least_mends(parity_book(deeds=((0, 0, 1, 1), (0, 1, 1, 1))), [*more, ("deed", 1, 3, 3)]),
                         self.plain_mends(parity_book(deeds=((0, 0, 1, 1), (0, 1, 1, 1))), [*more, ("deed", 1, 3, 3)]))

    def test_against_all_selections(self):
        rng = random.Random(255)
        seen = set()
        for _ in range(60):
            best = with_top(rng, random_book(rng, nones=0, letters=rng.randint(1, 3), tests=rng.randint(0, 2)), 1)
            try:
                best = best_book(best)
            except ValueError:
                continue
            book, pool = lowered(rng, best)
            if not pool:
                continue
            mends = least_mends(book, pool)
            self.assertEqual(mends, self.plain_mends(book, pool))
            self.assertEqual(list(mends), sorted(mends, key=lambda mend: (len(mend), mend)))
            self.assertEqual(mends, least_mends(book, list(pool)))
            seen |= {len(mend) for mend in mends}
        self.assertLessEqual({0, 1, 2}, seen)

    def test_bad_pools(self):
        book = parity_book(deeds=((0, 1, 1, 1), (0, 1, 1, 3)))
        good = ("deed", 1, 1, 3)
        for pool in (None, (), [], "pool", {}, 3, [good] * 7, [None] * 7):
            self.assertEqual(error_of(least_mends, book, pool), ("BadPool", -1))
        wrong = (None, (), ("deed", 1, 1), ("deed", 1, 1, 3, 0), ("dead", 1, 1, 3), ("deed", 2, 1, 3),
                 ("deed", -1, 1, 3), ("deed", True, 1, 3), ("so", 0, 1, 3), ("not", 0, 1, 3), ("deed", 1, 0, 3),
                 ("deed", 1, 4, 3), ("deed", 1, 2, 4), ("deed", 1, 2, 1), ("deed", 1, 2, 2), ("deed", 1, 2, 0),
                 ("deed", 1, 2, True), ("deed", 1, True, 3), "deed", good, ["deed", 1, 1, 3], (["deed"], 1, 1, 3))
        for item in wrong:
            self.assertEqual(error_of(least_mends, book, [good, item]), ("BadPool", 1), item)
            self.assertEqual(error_of(least_mends, book, (good, ("deed", 0, 1, 3), item, None)), ("BadPool", 2), item)
        # A raise that does not rise alone is a good one, also to the word that is there already.
        self.assertIsNone(error_of(least_mends, book, [good, ("deed", 0, 1, 3)]))
        self.assertEqual(error_of(least_mends, book, [("deed", 1, 3, 3)]), ("BadPool", 0))
        self.assertEqual(error_of(least_mends, book, [("deed", 1, 2, 3), ("deed", 1, 2, 3)]), ("BadPool", 1))
        self.assertIsNone(error_of(least_mends, book, [("deed", 0, 1, 3), ("deed", 0, 2, 3), good]))

    def test_what_verdict_raises(self):
        # Without its letter of rests the book is decided soon, with it numbers come round too late.
        book = ring_book(3, 5, [("mod", 2)])
        self.assertEqual(error_of(least_mends, book, [("deed", 0, 1, book.top)]), ("TooLong", 10080))
        self.assertEqual(error_of(least_mends, book, [None]), ("BadPool", 0))

    def test_selections_that_make_no_book(self):
        # Alone the first one does not rise; any must be raised with the word below it.
        book = parity_book(deeds=((0, 1, 1, 1), (0, 0, 1, 1)))
        pool = [("deed", 1, 1, 2), ("deed", 1, 3, 3), ("deed", 0, 1, 3)]
        self.assertEqual(error_of(raised_book, book, pool[:1]), ("BadRaise", -1))
        self.assertEqual(least_mends(book, pool), ((0, 1),))
        self.assertEqual(least_mends(book, pool[:1]), ())


def lowered(rng, book):
    """A book with some entries put lower, and the raises that put them back, or None and no raises."""
    for _ in range(30):
        tables = {"deed": [list(row) for row in book.deeds], "so": [list(row) for row in book.so],
                  "not": [list(row) for row in book.not_so]}
        pool = []
        for _ in range(rng.randint(1, 5)):
            kind = rng.choice([kind for kind in tables if tables[kind]])
            at = rng.randrange(len(tables[kind]))
            word = rng.randrange(1, book.many)
            if (kind, at, word) in [item[:3] for item in pool]:
                continue
            below = [low for low in range(book.many)
                     if low != tables[kind][at][word] and at_most(book, low, tables[kind][at][word])]
            if below:
                pool.append((kind, at, word, tables[kind][at][word]))
                tables[kind][at][word] = rng.choice(below)
        if pool:
            try:
                return remade(book, deeds=tables["deed"], so=tables["so"], not_so=tables["not"]), pool
            except ValueError:
                continue
    return book, []


if __name__ == "__main__":
    unittest.main()
