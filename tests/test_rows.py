"""Rows of words [6.1] to [6.3], and check_alphabet of [6.7]."""

import itertools
import random
import unittest

from randoms import plain_moves, random_book
from support import error_of, parity_book, sign_book
from truebooks.programs import Program
from truebooks.rows import check_alphabet, entry_row, join_rows, row_after, row_at_most, start_row

ADD = ("add", 1)


class AlphabetTest(unittest.TestCase):
    def fault(self, book, *rows):
        return error_of(check_alphabet, book, Program([("m", 1, ()), ("p", 2, rows)]))

    def test_what_the_book_has(self):
        book = sign_book()
        rows = [("deed", 0, letter) for letter in book.letters]
        rows.extend(("need", 1, test) for test in book.tests)
        self.assertIsNone(check_alphabet(book, Program([("m", 2, rows)])))
        self.assertIsNone(self.fault(book))
        self.assertIsNone(self.fault(parity_book(), ("copy", 0, 1), ("stop",), ("call", "m", (), 0)))

    def test_what_it_has_not(self):
        book = sign_book()
        other = ("OtherAlphabet",)
        self.assertEqual(self.fault(book, ("deed", 0, ("add", 2))), other)
        self.assertEqual(self.fault(book, ("either", (), (("while", 0, ("is", 0), (("deed", 1, ("set", 1)),)),))),
                         other)
        for word in ("need", "if", "while"):
            blocks = {"need": (), "if": ((), ()), "while": ((),)}[word]
            self.assertIsNone(self.fault(book, (word, 0, ("is", 0), *blocks)))
            self.assertEqual(self.fault(book, (word, 0, ("is", 1), *blocks)), other)
        self.assertEqual(self.fault(parity_book(), ("need", 0, ("below", 1))), other)


class SmallRowsTest(unittest.TestCase):
    def test_joins(self):
        book = parity_book()
        self.assertEqual(join_rows(book, (1, 2, 3), (2, 2, 1)), (3, 2, 3))
        self.assertEqual(join_rows(book, [1, 1], [1, 2]), (1, 3))
        self.assertEqual(join_rows(book, None, [1, 2]), (1, 2))
        self.assertEqual(join_rows(book, [1, 2], None), (1, 2))
        self.assertIsNone(join_rows(book, None, None))

    def test_at_most(self):
        book = parity_book()
        self.assertIs(row_at_most(book, (1, 2), (3, 2)), True)
        self.assertIs(row_at_most(book, [1, 2], (1, 2)), True)
        self.assertIs(row_at_most(book, (1, 2), [3, 1]), False)
        self.assertIs(row_at_most(book, (3, 2), (1, 2)), False)
        self.assertIs(row_at_most(book, None, None), True)
        self.assertIs(row_at_most(book, None, (1,)), True)
        self.assertIs(row_at_most(book, (1,), None), False)

    def test_start_rows(self):
        self.assertEqual(start_row(parity_book(), 3), (1, 1, 1))
        self.assertEqual(start_row(parity_book(first=2), 1), (2,))

    def test_entry_rows(self):
        book = parity_book()
        self.assertEqual(entry_row(book, (2, 0, 2), (1, 2, 3), 5), (3, 1, 3, 1, 1))
        self.assertEqual(entry_row(book, [1], [1, 2, 3], 1), (2,))
        self.assertEqual(entry_row(parity_book(first=2), (), (1,), 2), (2, 2))
        self.assertIsNone(entry_row(book, (0,), None, 2))
        self.assertIsNone(entry_row(book, (), None, 2))


class RowAfterTest(unittest.TestCase):
    def test_each_act(self):
        book = sign_book()
        self.assertEqual(row_after(book, ("deed", 1, ADD), (1, 1, 2)), (1, 2, 2))
        self.assertEqual(row_after(book, ("deed", 1, ADD), [1, 3, 2]), (1, 3, 2))
        self.assertEqual(row_after(book, ("copy", 0, 2), (1, 1, 2)), (2, 1, 2))
        self.assertEqual(row_after(book, ("copy", 0, 0), (1, 2)), (1, 2))
        self.assertEqual(row_after(book, ("so", 1, ("is", 0)), (3, 3)), (3, 1))
        self.assertEqual(row_after(book, ("not", 1, ("below", 1)), (3, 3)), (3, 2))
        self.assertEqual(row_after(book, ("stay",), (3, 1)), (3, 1))
        self.assertEqual(row_after(book, ("stay",), [3, 1], 2), (3, 1))
        # What the call is and hands over does not matter.
        self.assertEqual(row_after(book, ("call", "p", (0, 0), 1), (3, 1), 2), (3, 2))
        self.assertEqual(row_after(book, ("call", "nobody", (7,), 0), (3, 1), result=1), (1, 1))
        self.assertEqual(row_after(book, ("deed", 0, ADD), (1,), 3), (2,))

    def test_none(self):
        book = sign_book()
        self.assertIsNone(row_after(book, ("so", 0, ("is", 0)), (2, 1)))
        self.assertIsNone(row_after(book, ("not", 1, ("is", 0)), (2, 1)))
        self.assertIsNone(row_after(book, ("call", "p", (), 0), (1,)))
        self.assertIsNone(row_after(book, ("call", "p", (), 0), (1,), 0))
        for act in (("stay",), ("deed", 0, ADD), ("copy", 0, 0), ("so", 0, ("is", 0)), ("not", 0, ("is", 0)),
                    ("call", "p", (), 0)):
            self.assertIsNone(row_after(book, act, None, 3))
        # A letter's table may bring NONE too.
        book = parity_book(deeds=((0, 1, 1, 1), (0, 0, 2, 3)))
        self.assertIsNone(row_after(book, ("deed", 0, ADD), (1, 1)))
        self.assertEqual(row_after(book, ("deed", 0, ADD), (2, 1)), (2, 1))

    def test_strange_letters_and_tests(self):
        book = sign_book()
        self.assertEqual(error_of(row_after, book, ("deed", 0, ("add", 2)), (1,)), ("NoLetter",))
        self.assertEqual(error_of(row_after, book, ("so", 0, ("is", 2)), (1,)), ("NoTest",))
        self.assertEqual(error_of(row_after, book, ("not", 0, ("is", 2)), (1,)), ("NoTest",))

    def test_random_books(self):
        rng = random.Random(61)
        for _ in range(60):
            book = random_book(rng)
            rows = [("deed", 1, letter) for letter in book.letters]
            rows.extend(("while", 0, test, ()) for test in book.tests)
            rows.extend([("copy", 1, 0), ("call", "p", (), 1)])
            words = range(1, book.many)
            for row in rows:
                acts = [row]
                if row[0] == "while":
                    acts = [("so", row[1], row[2]), ("not", row[1], row[2])]
                for told in itertools.product(words, repeat=2):
                    result = rng.randrange(book.many)
                    self.assertEqual([row_after(book, act, told, result) for act in acts],
                                     plain_moves(book, row, told, result))

    def test_lesser_rows_lead_to_lesser_rows(self):
        rng = random.Random(62)
        for _ in range(40):
            book = random_book(rng, nones=0.6)
            acts = [("deed", 0, letter) for letter in book.letters] + [("copy", 1, 0), ("call", "p", (), 0)]
            acts.extend((side, 1, test) for test in book.tests for side in ("so", "not"))
            rows = list(itertools.product(range(1, book.many), repeat=2))
            for act in acts:
                for _ in range(20):
                    one, other = rng.choice(rows), rng.choice(rows)
                    result = rng.randrange(book.many)
                    higher = book.joins[result][rng.randrange(book.many)]
                    self.assertTrue(row_at_most(book, row_after(book, act, one, result),
                                                row_after(book, act, join_rows(book, one, other), higher)))


if __name__ == "__main__":
    unittest.main()
