"""What books tell, raised and renamed books [3.6] to [3.10]."""

import random
import unittest

from support import chain_book, error_of, evens, odds, parity_book, sign_book
from truebooks.books import Book
from truebooks.letters import do_letter, passes
from truebooks.lots import empty_lot, just_lot, whole_lot
from truebooks.tables import (
    alarms_at, at_most, check_word, covers_first, covers_row, covers_test, deed_word, join_all,
    join_two, raised_book, renamed_book, step_word, test_word as word_behind_test,
)

ADD = ("add", 1)


class WordsTest(unittest.TestCase):
    def test_check_word(self):
        book = parity_book()
        for word in range(4):
            self.assertEqual(check_word(book, word), word)
        for word in (4, -1, True, False, None, "1", 1.0, (1,)):
            self.assertEqual(error_of(check_word, book, word), ("BadWord",), word)

    def test_joins(self):
        book = parity_book()
        below = {(a, b) for a in range(4) for b in range(4) if at_most(book, a, b)}
        self.assertEqual(below, {(0, 0), (0, 1), (0, 2), (0, 3), (1, 1), (2, 2), (3, 3), (1, 3), (2, 3)})
        self.assertIs(at_most(book, 1, 3), True)
        self.assertIs(at_most(book, 3, 1), False)
        self.assertEqual(join_two(book, 1, 2), 3)
        self.assertEqual(join_two(book, 0, 2), 2)
        self.assertEqual(join_all(book, []), 0)
        self.assertEqual(join_all(book, (2,)), 2)
        self.assertEqual(join_all(book, [2, 0, 2]), 2)
        self.assertEqual(join_all(book, (2, 1, 0)), 3)

    def test_deeds(self):
        book = parity_book()
        self.assertEqual([deed_word(book, ADD, word) for word in range(4)], [0, 2, 1, 3])
        self.assertEqual([deed_word(book, ("set", 0), word) for word in range(4)], [0, 1, 1, 1])
        for letter in (("add", 2), ("turn",), ("set", 1), ("is", 0), ("add", True), ("set", False), None):
            self.assertEqual(error_of(deed_word, book, letter, 1), ("NoLetter",), letter)

    def test_tests(self):
        book = sign_book()
        self.assertEqual([word_behind_test(book, ("is", 0), True, w) for w in range(4)], [0, 1, 0, 1])
        self.assertEqual([word_behind_test(book, ("is", 0), False, w) for w in range(4)], [0, 0, 2, 3])
        self.assertEqual([word_behind_test(book, ("below", 1), True, w) for w in range(4)], [0, 1, 0, 3])
        for test in (("is", 1), ("below", 0), ("turn",), ("is", False), ("below", True), None):
            for holds in (True, False):
                self.assertEqual(error_of(word_behind_test, book, test, holds, 1), ("NoTest",), test)

    def test_steps(self):
        book = sign_book()
        for word in range(4):
            self.assertEqual(step_word(book, ("stay",), word), word)
            for letter in book.letters:
                self.assertEqual(step_word(book, ("deed", letter), word), deed_word(book, letter, word))
            for test in book.tests:
                self.assertEqual(step_word(book, ("so", test), word),
                                 word_behind_test(book, test, True, word))
                self.assertEqual(step_word(book, ("not", test), word),
                                 word_behind_test(book, test, False, word))
            for other in range(4):
                self.assertEqual(step_word(book, ("join", other), word), join_two(book, word, other))
        self.assertEqual(error_of(step_word, book, ("deed", ("add", 2)), 1), ("NoLetter",))
        self.assertEqual(error_of(step_word, book, ("so", ("is", 3)), 1), ("NoTest",))
        self.assertEqual(error_of(step_word, book, ("not", ("is", 3)), 1), ("NoTest",))

    def test_alarms(self):
        book = sign_book()
        self.assertEqual([alarms_at(book, word, ("is", 0)) for word in range(4)],
                         [False, False, True, True])
        self.assertEqual([alarms_at(book, word, ("below", 1)) for word in range(4)],
                         [False, False, True, True])
        self.assertIs(alarms_at(book, 3, ("is", 0)), True)
        self.assertIs(alarms_at(book, 0, ("is", 0)), False)
        for word in range(4):
            self.assertEqual(error_of(alarms_at, book, word, ("is", 5)), ("NoTest",))


class CoversTest(unittest.TestCase):
    def test_the_example_covers(self):
        book = parity_book()
        self.assertIsNone(covers_first(book))
        for letter in book.letters:
            for word in range(4):
                self.assertIsNone(covers_row(book, letter, word))

    def test_gaps(self):
        book = parity_book(deeds=((0, 1, 1, 1), (0, 1, 1, 3)), first=2)
        self.assertEqual(covers_first(book), 0)
        self.assertEqual(covers_row(book, ADD, 1), -1)
        self.assertIsNone(covers_row(book, ADD, 2))
        self.assertIsNone(covers_row(book, ADD, 0))
        book = sign_book()
        self.assertEqual(covers_row(book, ("turn",), 2), None)
        self.assertEqual(covers_test(book, ("below", 1), False, 3), None)
        loose = sign_book(so=((0, 0, 0, 0), (0, 1, 0, 1)), not_so=((0, 0, 2, 2), (0, 0, 0, 2)))
        self.assertEqual(covers_test(loose, ("is", 0), True, 3), 0)
        self.assertEqual(covers_test(loose, ("below", 1), True, 3), -1)
        self.assertEqual(covers_test(loose, ("is", 0), False, 3), -1)
        self.assertEqual(covers_test(loose, ("below", 1), False, 2), 1)
        self.assertIsNone(covers_test(loose, ("below", 1), False, 3))

    def test_random_books(self):
        rng = random.Random(61)
        by_size = sorted(range(-80, 81), key=lambda n: (abs(n), n))
        for _ in range(80):
            book = random_book(rng)
            for word in range(book.many):
                meaning = book.meanings[word]
                for letter in book.letters:
                    behind = book.meanings[deed_word(book, letter, word)]
                    made = {do_letter(letter, n) for n in range(-200, 201) if n in meaning}
                    want = [n for n in by_size if n in made and n not in behind]
                    self.assertEqual(covers_row(book, letter, word), want[0] if want else None)
                for test in book.tests:
                    for holds in (True, False):
                        behind = book.meanings[word_behind_test(book, test, holds, word)]
                        want = [n for n in by_size if n in meaning and passes(test, n) == holds
                                and n not in behind]
                        self.assertEqual(covers_test(book, test, holds, word),
                                         want[0] if want else None)

    def test_errors(self):
        book = sign_book()
        self.assertEqual(error_of(covers_row, book, ("add", 2), 1), ("NoLetter",))
        for holds in (True, False):
            self.assertEqual(error_of(covers_test, book, ("is", 9), holds, 1), ("NoTest",))


def random_row(rng, many):
    """A row that rises over the chain 0, 1, .., many - 1."""
    return [0] + sorted(rng.randrange(many) for _ in range(many - 1))


def random_book(rng):
    """A book over a chain of words with growing meanings."""
    many = rng.randint(2, 5)
    meanings = [empty_lot()]
    held = []
    for _ in range(1, many):
        held.extend(rng.sample(range(-9, 10), 3))
        meanings.append(just_lot(held))
    if rng.random() < 0.5:
        meanings[-1] = whole_lot()
    letters = [("set", 0), ("add", rng.randint(1, 5)), ("turn",), ("mod", rng.randint(1, 6))]
    tests = [("below", rng.randint(-5, 5)), ("is", rng.randint(-3, 3)), ("rest", 3, 1)]
    joins = [[max(a, b) for b in range(many)] for a in range(many)]
    return Book(letters, tests, joins, meanings, [random_row(rng, many) for _ in letters],
                [random_row(rng, many) for _ in tests], [random_row(rng, many) for _ in tests], 1)


class RaisedTest(unittest.TestCase):
    def fault(self, book, *raises):
        return error_of(raised_book, book, raises)

    def test_good_raises(self):
        book = sign_book()
        raised = raised_book(book, [["deed", 2, 1, 3], ("so", 0, 2, 1), ("not", 0, 1, 3)])
        self.assertEqual(raised.deeds, (book.deeds[0], book.deeds[1], (0, 3, 3, 3), book.deeds[3]))
        self.assertEqual(raised.so, ((0, 1, 1, 1), book.so[1]))
        self.assertEqual(raised.not_so, ((0, 3, 2, 3), book.not_so[1]))
        self.assertEqual(book, sign_book())
        self.assertEqual(raised_book(book, []), book)
        self.assertEqual(raised_book(book, ()), book)

    def test_done_in_turn(self):
        book = chain_book(4)
        self.assertEqual(raised_book(book, [("deed", 0, 3, 2), ("deed", 0, 3, 3)]).deeds,
                         ((0, 1, 1, 3),))
        self.assertEqual(self.fault(book, ("deed", 0, 3, 3), ("deed", 0, 3, 2)), ("BadRaise", 1))
        self.assertEqual(self.fault(book, ("deed", 0, 3, 2), ("deed", 0, 3, 2)), ("BadRaise", 1))
        # A row may come out right though it does not rise on the way.
        self.assertEqual(raised_book(book, [("deed", 0, 1, 2), ("deed", 0, 2, 2), ("deed", 0, 3, 2)])
                         .deeds, ((0, 2, 2, 2),))
        self.assertEqual(self.fault(book, ("deed", 0, 1, 2), ("deed", 0, 2, 2)), ("BadRaise", -1))

    def test_no_sequence_or_too_many(self):
        book = chain_book(3)
        for raises in (None, {}, "deed", [None] * 61, 4):
            self.assertEqual(error_of(raised_book, book, raises), ("BadRaise", -1))
        self.assertEqual(error_of(raised_book, book, [None] * 60), ("BadRaise", 0))

    def test_wrong_forms(self):
        book = sign_book()
        good = ("deed", 2, 1, 3)
        for item in (None, (), "deed", ("deed", 2, 1), ("deed", 2, 1, 3, 0), ("join", 0, 1, 3),
                     ("deed", 4, 1, 3), ("deed", -1, 1, 3), ("deed", True, 1, 3), ("so", 2, 1, 3),
                     ("not", 2, 1, 3), ("deed", 0, 0, 3), ("deed", 0, 4, 3), ("deed", 0, True, 3),
                     ("deed", 0, 1, 4), ("deed", 0, 1, True), ("deed", 0, 1, None), (["so"], 0, 1, 3),
                     ("deed", 0, 1, 1), ("deed", 1, 1, 1), ("so", 0, 1, 0), ("deed", 0, 1, 0),
                     ("deed", 0, 1, 2)):
            self.assertEqual(self.fault(book, good, item, None), ("BadRaise", 1), item)

    def test_rows_must_rise(self):
        book = sign_book()
        self.assertEqual(self.fault(book, ("so", 0, 1, 3)), ("BadRaise", -1))
        self.assertEqual(self.fault(book, ("so", 0, 1, 3), None), ("BadRaise", 1))
        self.assertIsNone(self.fault(book, ("so", 0, 3, 3)))


class RenamedTest(unittest.TestCase):
    def test_words_are_called_otherwise(self):
        book = parity_book()
        named = renamed_book(book, [0, 3, 1, 2])
        self.assertEqual(named.first, 3)
        self.assertEqual(named.meanings, (empty_lot(), odds(), whole_lot(), evens()))
        self.assertEqual(deed_word(named, ADD, 3), 1)
        self.assertEqual(deed_word(named, ADD, 1), 3)
        self.assertEqual(join_two(named, 1, 3), 2)
        self.assertEqual(renamed_book(named, (0, 2, 3, 1)), book)
        self.assertEqual(renamed_book(book, (0, 1, 2, 3)), book)

    def test_all_tables(self):
        book = sign_book()
        for places in ((0, 2, 1, 3), (0, 3, 2, 1), (0, 2, 3, 1)):
            named = renamed_book(book, places)
            for a in range(4):
                self.assertEqual(named.meanings[places[a]], book.meanings[a])
                for b in range(4):
                    self.assertEqual(named.joins[places[a]][places[b]], places[book.joins[a][b]])
                for one, other in ((named.deeds, book.deeds), (named.so, book.so),
                                   (named.not_so, book.not_so)):
                    for row, elder in zip(one, other):
                        self.assertEqual(row[places[a]], places[elder[a]])
            self.assertEqual(named.top, places[book.top])

    def test_bad_names(self):
        book = parity_book()
        for places in (None, {}, "0123", (), (0, 1, 2), (0, 1, 2, 3, 4), (1, 0, 2, 3), (0, 1, 1, 3),
                       (0, 1, 2, 4), (0, True, 2, 3), (False, 1, 2, 3), (0, 1, 2, None),
                       (0, 1, 2, "3"), [0, -1, 2, 3]):
            self.assertEqual(error_of(renamed_book, book, places), ("BadNames",), places)
        places = [0, 3, 2, 1]
        renamed_book(book, places)
        self.assertEqual(places, [0, 3, 2, 1])


if __name__ == "__main__":
    unittest.main()
