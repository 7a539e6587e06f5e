"""Books [3.1] to [3.5]."""

import random
import unittest

from support import (
    FOUR, chain_book, error_of, evens, odds, parity_book, parity_parts, sign_book, sign_parts,
)
from truebooks.books import Book
from truebooks.lots import Lot, empty_lot, just_lot, make_lot, range_lot, whole_lot


class BookTest(unittest.TestCase):
    def test_the_example_of_the_document(self):
        book = parity_book()
        self.assertEqual(book.letters, (("set", 0), ("add", 1)))
        self.assertEqual((book.many, book.top, book.first), (4, 3, 1))
        self.assertEqual(book.deeds, ((0, 1, 1, 1), (0, 2, 1, 3)))

    def test_sequences_become_tuples(self):
        parts = sign_parts()
        lists = {name: as_lists(part) for name, part in parts.items()}
        copy = {name: as_lists(part) for name, part in parts.items()}
        book = Book(**lists)
        self.assertEqual(lists, copy)
        self.assertEqual(book, Book(**parts))
        for name in ("letters", "tests", "joins", "meanings", "deeds", "so", "not_so"):
            told = getattr(book, name)
            self.assertIsInstance(told, tuple)
            self.assertTrue(all(isinstance(row, (tuple, Lot)) for row in told))
        lists["joins"][0][0] = 3
        lists["letters"].clear()
        self.assertEqual(book, Book(**parts))

    def test_equality(self):
        self.assertEqual(sign_book(), sign_book())
        self.assertNotEqual(sign_book(), sign_book(first=2))
        self.assertNotEqual(parity_book(), sign_book())
        self.assertNotEqual(parity_book(), parity_parts())
        self.assertNotEqual(parity_book(), parity_book(meanings=(empty_lot(), evens(), evens(),
                                                                 whole_lot())))
        letters = (("set", 0), ("add", 2), ("turn",), ("mod", 3))
        self.assertNotEqual(sign_book(), sign_book(letters=letters))
        self.assertNotEqual(sign_book(), sign_book(tests=(("is", 0), ("below", 2))))
        self.assertNotEqual(sign_book(), sign_book(deeds=((0, 1, 1, 1),) * 4))
        flat = {"meanings": (empty_lot(),) * 4, "deeds": ((0, 0, 0, 0),) * 4,
                "so": ((0, 0, 0, 0),) * 2, "not_so": ((0, 0, 0, 0),) * 2}
        chain = [[max(a, b) for b in range(4)] for a in range(4)]
        self.assertNotEqual(sign_book(**flat), sign_book(joins=chain, **flat))
        self.assertNotEqual(sign_book(), sign_book(so=((0, 1, 0, 3), (0, 1, 0, 3))))
        self.assertNotEqual(sign_book(), sign_book(not_so=((0, 0, 2, 3), (0, 0, 2, 3))))

    def test_two_and_twelve_words(self):
        for many in (2, 3, 12):
            book = chain_book(many)
            self.assertEqual((book.many, book.top), (many, many - 1))
        for many in (1, 13):
            self.assertEqual(error_of(chain_book, many), ("BadBook", "joins", -1))

    def test_tests_may_tell_none_everywhere(self):
        book = sign_book(so=((0, 0, 0, 0), (0, 1, 0, 3)), not_so=((0, 0, 0, 0), (0, 0, 2, 2)))
        self.assertEqual(book.so[0], (0, 0, 0, 0))
        self.assertIsNotNone(parity_book(deeds=((0, 1, 1, 1), (0, 0, 0, 0))))


def as_lists(part):
    return [as_lists(entry) for entry in part] if isinstance(part, (tuple, list)) else part


class FaultsTest(unittest.TestCase):
    def fault(self, **changes):
        parts = sign_parts()
        parts.update(changes)
        return error_of(Book, **parts)

    def assert_fault(self, what, at, **changes):
        self.assertEqual(self.fault(**changes), ("BadBook", what, at), changes)

    def test_letters(self):
        zero = ("set", 0)
        for letters in (None, {}, "set", (), [zero] * 11, 3):
            self.assert_fault("letters", -1, letters=letters)
        for letter in (("set", 21), ("set", True), None, "turn", ("is", 0), zero, ["set", 0]):
            self.assert_fault("letters", 1, letters=(zero, letter, None, None))
        self.assert_fault("letters", -1, letters=(("set", 1), ("turn",)))
        # All places come ahead of the missing letter.
        self.assert_fault("letters", 2, letters=(("set", 1), ("turn",), ("turn",)))
        ten = [zero] + [("add", n) for n in range(9)]
        self.assert_fault("deeds", -1, letters=ten)

    def test_tests(self):
        for tests in (None, {}, "is", [("is", n) for n in range(7)], 3):
            self.assert_fault("tests", -1, tests=tests)
        for test in (("is", 21), ("is", False), None, ("turn",), ("is", 1), ["is", 1]):
            self.assert_fault("tests", 1, tests=(("is", 1), test))
        self.assert_fault("so", -1, tests=[("is", n) for n in range(6)])
        self.assert_fault("so", -1, tests=())

    def test_joins(self):
        for joins in (None, {}, "ab", (), ((0,),), 3):
            self.assert_fault("joins", -1, joins=joins)
        self.assert_fault("joins", -1, joins=[[0] * 13] * 13)
        for row in (None, (1, 1, 3), (1, 1, 3, 3, 3), (1, 1, 3, 4), (1, -1, 3, 3), (True, 1, 3, 3),
                    "1133", (1, 1, 3, None)):
            self.assert_fault("joins", 1, joins=(FOUR[0], row, None, FOUR[3]))

    def changed(self, *changes):
        rows = [list(row) for row in FOUR]
        for a, b, word in changes:
            rows[a][b] = word
        return rows

    def test_laws_of_joins(self):
        self.assert_fault("itself", 2, joins=self.changed((2, 2, 3), (3, 3, 1)))
        self.assert_fault("turned", 1, joins=self.changed((2, 1, 2)))
        self.assert_fault("turned", 0, joins=self.changed((3, 0, 2)))
        self.assert_fault("none", 2, joins=self.changed((0, 2, 3), (2, 0, 3)))
        # 1 or 2 is 3, 3 or 4 is 4, but 1 or 4 is 3: (1 or 3) or 4 is not 1 or (3 or 4).
        rows = [[max(a, b) for b in range(5)] for a in range(5)]
        rows[1][2] = rows[2][1] = 3
        rows[1][4] = rows[4][1] = 3
        self.assert_fault("grouped", 1, joins=rows)
        # One kind is looked for everywhere before the next one.
        self.assert_fault("itself", 3, joins=self.changed((3, 3, 1), (2, 1, 2), (0, 1, 3)))
        self.assert_fault("turned", 0, joins=self.changed((0, 1, 3)))

    def test_laws_of_joins_at_random(self):
        rng = random.Random(51)
        seen = set()
        for _ in range(3000):
            many = rng.choice((2, 3, 3, 4))
            rows = [[max(a, b) for b in range(many)] for a in range(many)]
            for _ in range(rng.randint(0, 3)):
                a, b, word = (rng.randrange(many) for _ in range(3))
                rows[a][b] = word
                if rng.random() < 0.7:
                    rows[b][a] = word
            want = law_fault(rows)
            parts = {"letters": [("set", 0)], "tests": [], "joins": rows,
                     "meanings": [empty_lot()] * many, "deeds": [[0] * many], "so": [],
                     "not_so": [], "first": 1}
            self.assertEqual(error_of(Book, **parts), want)
            seen.add(want and want[1])
        self.assertEqual(seen, {None, "itself", "turned", "none", "grouped"})

    def test_meanings(self):
        good = sign_parts()["meanings"]
        for meanings in (None, {}, good[:3], good + good[:1], "abcd"):
            self.assert_fault("meanings", -1, meanings=meanings)
        wide = make_lot(0, -1, (), 61, [0], [0])
        low = just_lot([-201])
        high = just_lot([201])
        for lot in (None, (), "lot", wide, low, high, (0, -1, (), 1, (), ())):
            self.assert_fault("meanings", 2, meanings=(good[0], good[1], lot, None))
        edge = make_lot(-200, 200, [-200, 0, 200], 60, [0], [59])
        self.assertEqual((edge.low, edge.high, edge.modulus), (-200, 200, 60))
        self.assertIsNone(self.fault(meanings=(good[0], good[1], edge, whole_lot())))
        self.assert_fault("meanings", 0, meanings=(wide, good[1], low, good[3]))

    def test_empty_and_rising(self):
        good = sign_parts()["meanings"]
        self.assert_fault("empty", 0, meanings=(just_lot([0]), good[1], just_lot([9]), evens()))
        self.assert_fault("rising", 3, meanings=(good[0], good[1], good[2], range_lot(0, 9)))
        self.assert_fault("rising", 3, meanings=(good[0], just_lot([3]), good[2], odds()))
        joins = [[max(a, b) for b in range(4)] for a in range(4)]
        self.assert_fault("rising", 2, joins=joins,
                          meanings=(good[0], just_lot([5]), just_lot([4]), just_lot([3])))

    def test_deeds(self):
        good = sign_parts()["deeds"]
        for deeds in (None, {}, good[:3], good + good[:1]):
            self.assert_fault("deeds", -1, deeds=deeds)
        for row in (None, (0, 1, 1), (0, 1, 1, 4), (0, 1, 1, True), (0, -1, 1, 1), "0111"):
            self.assert_fault("deeds", 2, deeds=(good[0], (1, 1, 1, 1), row, None))
        self.assert_fault("deed", 1, deeds=(good[0], (1, 3, 3, 3), (0, 3, 1, 1), good[3]))
        # E and O are at most any, which must not tell less.
        self.assert_fault("deed", 2, deeds=(good[0], good[1], (0, 2, 2, 1), good[3]))
        self.assert_fault("deed", 3, deeds=(good[0], good[1], good[2], (0, 1, 0, 0)))

    def test_so_and_not(self):
        for name, word in (("so", "so"), ("not_so", "not")):
            good = sign_parts()[name]
            for table in (None, {}, good[:1], good + good[:1]):
                self.assert_fault(word, -1, **{name: table})
            for row in (None, (0, 1, 1), (0, 1, 1, 4), (0, 1, 1, True), "0111"):
                self.assert_fault(word, 1, **{name: ((1, 1, 1, 1), row)})
            self.assert_fault(word + " row", 1, **{name: (good[0], (0, 3, 1, 1))})
            self.assert_fault(word + " row", 0, **{name: ((1, 3, 3, 3), good[1])})

    def test_first(self):
        for first in (0, 4, -1, True, None, "1", 1.0, (1,)):
            self.assert_fault("first", 0, first=first)

    def test_the_order_of_all_faults(self):
        bad = {"letters": None, "tests": None, "joins": None, "meanings": None, "deeds": None,
               "so": None, "not_so": None, "first": None}
        words = ("letters", "tests", "joins", "meanings", "deeds", "so", "not", "first")
        good = sign_parts()
        for name, word in zip(list(bad), words):
            self.assertEqual(error_of(Book, **bad)[1], word)
            bad[name] = good[name]
        self.assertIsNone(error_of(Book, **bad))
        # A row of a table that does not rise comes ahead of the next table's form.
        self.assert_fault("deed", 0, deeds=((0, 3, 1, 1), *good["deeds"][1:]), so=None)
        self.assert_fault("so row", 0, so=((0, 3, 1, 1), good["so"][1]), not_so=None)
        self.assert_fault("not row", 0, not_so=((0, 3, 1, 1), good["not_so"][1]), first=0)
        self.assert_fault("rising", 3, meanings=(empty_lot(), just_lot([0]), odds(), odds()),
                          deeds=None)


def law_fault(rows):
    words = range(len(rows))
    for a in words:
        if rows[a][a] != a:
            return ("BadBook", "itself", a)
    for a in words:
        if any(rows[a][b] != rows[b][a] for b in words):
            return ("BadBook", "turned", a)
    for a in words:
        if rows[a][0] != a:
            return ("BadBook", "none", a)
    for a in words:
        if any(rows[rows[a][b]][c] != rows[a][rows[b][c]] for b in words for c in words):
            return ("BadBook", "grouped", a)
    return None


if __name__ == "__main__":
    unittest.main()
