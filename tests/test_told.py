"""Told words, their lines and programs, rows that matter [11.1] to [11.3], [11.9]."""

import random
import unittest

from randoms import random_book, random_program
from support import chain_book, error_of, parity_book, sign_book
from truebooks.books import Book
from truebooks.calls import answer_program, row_told
from truebooks.places import flat_rows
from truebooks.told import (
    rows_that_matter, told_fault, told_lines, told_procedures, told_program, told_words,
)
from truebooks.treatments import first_key

TREATMENTS = ("entry", ("callers", 3), ("callers", 2), ("callers", 1), "one")


def books(seed, many):
    rng = random.Random(seed)
    for _ in range(many):
        yield rng, random_book(rng, atoms=rng.randint(1, 4), nones=rng.choice((0, 0.3, 0.7)))


def plain_told(book):
    """The told words, by closing again and again."""
    told = {book.first}
    while True:
        more = {row[word] for table in (book.deeds, book.so, book.not_so) for row in table for word in told}
        more |= {book.joins[a][b] for a in told for b in told}
        if more <= told | {0}:
            return tuple(sorted(told))
        told |= more - {0}


class WordsTest(unittest.TestCase):
    def test_the_examples(self):
        self.assertEqual(told_words(parity_book()), (1, 2, 3))
        self.assertEqual(told_words(parity_book(deeds=((0, 2, 2, 2), (0, 2, 2, 3)))), (1, 2, 3))
        self.assertEqual(told_words(parity_book(deeds=((0, 1, 1, 1), (0, 1, 2, 3)))), (1,))
        self.assertEqual(told_words(parity_book(first=3, deeds=((0, 3, 3, 3), (0, 2, 1, 3)))), (3,))
        self.assertEqual(told_words(chain_book(12)), (1,))
        # NONE is never put in, though tests bring it.
        self.assertEqual(told_words(sign_book()), (1, 2, 3))

    def test_random_books(self):
        sizes = set()
        for _, book in books(111, 200):
            words = told_words(book)
            self.assertEqual(words, plain_told(book))
            sizes.add(len(words))
        self.assertGreater(len(sizes), 4)

    def test_programs_tell_no_other_words(self):
        for rng, book in books(112, 60):
            words = (0, *told_words(book))
            program = random_program(rng, book)
            for treatment in TREATMENTS:
                for table in answer_program(book, program, treatment).tables:
                    for row in table:
                        self.assertLessEqual(set(row or ()), set(words))


class LinesTest(unittest.TestCase):
    def test_lines(self):
        for _, book in books(113, 150):
            lines = told_lines(book)
            self.assertEqual(sorted(word for word, _ in lines), list(told_words(book)))
            self.assertIsNone(told_fault(book, lines))
            self.assertIsNone(told_fault(book, list(lines)))
            for number, (word, why) in enumerate(lines):
                self.assertIn(why[0], ("first", "step", "join"))
                for elder in why[1:2] if why[0] == "step" else why[1:]:
                    self.assertLess(elder, number)
                if number:
                    self.assertEqual(told_fault(book, lines[:number]), ("open", min(set(told_words(book))
                                     - {told for told, _ in lines[:number]})))

    def test_no_lines(self):
        self.assertEqual(told_fault(parity_book(), ()), ("open", 1))

    def test_good_lines_of_other_forms(self):
        lines = [(1, ("first",)), (2, ("step", 0, ("deed", ("add", 1)))), (3, ("join", 1, 0))]
        self.assertIsNone(told_fault(parity_book(), lines))
        lines = [(1, ("step", 0, ("deed", ("set", 0))))]
        self.assertEqual(told_fault(parity_book(), lines), ("line", 0))
        book = sign_book()
        lines = [(1, ("first",)), (2, ("step", 0, ("deed", ("add", 1)))), (3, ("join", 1, 0))]
        self.assertIsNone(told_fault(book, lines))
        book = sign_book(not_so=((0, 2, 2, 3), (0, 0, 2, 2)))
        self.assertIsNone(told_fault(book, [lines[0], (2, ("step", 0, ("not", ("is", 0)))), lines[2]]))
        book = sign_book(so=((0, 2, 2, 3), (0, 1, 0, 3)))
        self.assertIsNone(told_fault(book, [lines[0], (2, ("step", 0, ("so", ("is", 0)))), lines[2]]))

    def test_wrong_lines(self):
        book = sign_book()
        first = (1, ("first",))
        second = (2, ("step", 0, ("deed", ("add", 1))))
        wrong = (
            None, 2, (), (2,), (2, ("step", 0, ("deed", ("add", 1))), 0), (2, None), (2, ()), (2, ("first",)),
            (0, ("step", 0, ("not", ("is", 0)))), (4, ("step", 0, ("deed", ("add", 1)))), (True, ("first",)),
            (-1, ("first",)), ("2", ("step", 0, ("deed", ("add", 1)))), (1, ("first",)),
            (1, ("step", 0, ("deed", ("set", 0)))), (3, ("step", 0, ("deed", ("add", 1)))),
            (2, ("step", 1, ("deed", ("add", 1)))), (2, ("step", -1, ("deed", ("add", 1)))),
            (2, ("step", True, ("deed", ("add", 1)))), (2, ("step", 0, ("deed", ("add", 2)))),
            (2, ("step", 0, ("deed", ("add", True)))), (2, ("step", 0, ("deed", ["add", 1]))),
            (2, ("step", 0, ["deed", ("add", 1)])), (2, ["step", 0, ("deed", ("add", 1))]),
            (2, ("step", 0, ("deed",))), (2, ("step", 0, ("deed", ("add", 1), 0))), (2, ("step", 0)),
            (2, ("step", 0, ("deed", ("add", 1)), 0)), (2, ("step", 0, ("so", ("add", 1)))),
            (2, ("step", 0, ("so", ("is", 5)))), (2, ("step", 0, ("join", 2))), (2, ("step", 0, ("stay",))),
            (2, ("step", 0, None)), (2, ("step", 0, ("deed", ("is", 0)))), (2, ("join", 0, 0)),
            (2, ("join", 0, 1)), (2, ("join", -1, 0)), (2, ("join", 0)), (2, ("begin",)),
            (2, ("begin", 0, ("deed", ("add", 1)))), (2, (("step",), 0, ("deed", ("add", 1)))), (2, "first"),
            (2, (0, 0, 0)),
        )
        for line in wrong:
            self.assertEqual(told_fault(book, (first, line)), ("line", 1), line)
            self.assertEqual(told_fault(book, (first, line, None)), ("line", 1), line)
        self.assertEqual(told_fault(book, (first, second, second)), ("line", 2))
        for line in ((3, ("join", 0, 2)), (3, ("join", 2, 0)), (3, ("join", 1, 1)), (3, ("join", 0, 1, 1)),
                     (3, ("join", 0, True)), (2, ("join", 0, 1))):
            self.assertEqual(told_fault(book, (first, second, line)), ("line", 2), line)
        self.assertEqual(told_fault(book, (first, second)), ("open", 3))
        self.assertEqual(told_fault(book, ((2, ("first",)),)), ("line", 0))


class ProgramsTest(unittest.TestCase):
    def test_procedures(self):
        for _, book in books(114, 80):
            procedures = told_procedures(book)
            self.assertEqual([name for name, _, _ in procedures], [f"t{word}" for word in told_words(book)])
            names = {name: at for at, (name, _, _) in enumerate(procedures)}
            calls = {}
            for name, variables, rows in procedures:
                self.assertEqual(variables, 1)
                flat = flat_rows(rows)
                self.assertFalse([row for row in flat if row[0] in ("while", "need")])
                calls[name] = [row[1] for row in flat if row[0] == "call"]
                self.assertTrue(all(row[2] == () for row in flat if row[0] == "call"))
                self.assertLessEqual(set(calls[name]), set(names))
            done = set()
            while len(done) < len(names):
                ready = {name for name in names if name not in done and set(calls[name]) <= done}
                self.assertTrue(ready)
                done |= ready

    def test_programs_tell_their_words(self):
        for _, book in books(115, 80):
            for word in told_words(book):
                program = told_program(book, word)
                self.assertEqual(program.procedures[0], ("main", 1, (("call", f"t{word}", (), 0),)))
                self.assertEqual(program.procedures[1:], told_procedures(book))
                for treatment in TREATMENTS:
                    answer = answer_program(book, program, treatment)
                    node = ("main", first_key(book, treatment, program))
                    self.assertEqual(row_told(answer, node, 1), (word,))

    def test_words_that_are_not_told(self):
        book = parity_book(deeds=((0, 1, 1, 1), (0, 1, 2, 3)))
        for word in (0, 2, 3, 4, -1, True, None, "1", (1,)):
            self.assertEqual(error_of(told_program, book, word), ("NotTold", word))
        self.assertIsNone(error_of(told_program, book, 1))


class MatterTest(unittest.TestCase):
    def test_the_example(self):
        self.assertEqual(rows_that_matter(parity_book()),
                         (("deed", 0, 1), ("deed", 0, 2), ("deed", 0, 3), ("deed", 1, 1), ("deed", 1, 2),
                          ("deed", 1, 3), ("join", 1, 2), ("join", 1, 3), ("join", 2, 3)))
        book = sign_book(deeds=((0, 1, 1, 1), (0, 1, 2, 3), (0, 1, 3, 3), (0, 1, 3, 3)))
        self.assertEqual(rows_that_matter(book),
                         (("deed", 0, 1), ("deed", 1, 1), ("deed", 2, 1), ("deed", 3, 1), ("not", 0, 1),
                          ("not", 1, 1), ("so", 0, 1), ("so", 1, 1)))

    def test_ascending(self):
        for _, book in books(116, 60):
            rows = rows_that_matter(book)
            words = told_words(book)
            want = [("deed", k, w) for k in range(len(book.letters)) for w in words]
            want += [(kind, k, w) for kind in ("so", "not") for k in range(len(book.tests)) for w in words]
            want += [("join", v, w) for v in words for w in words if v < w]
            self.assertEqual(list(rows), sorted(want))

    def test_the_other_entries_do_not_matter(self):
        changes = 0
        for rng, book in books(117, 150):
            other = changed_elsewhere(rng, book)
            if other is None:
                continue
            changes += 1
            self.assertEqual(told_words(other), told_words(book))
            for _ in range(3):
                program = random_program(rng, book)
                for treatment in TREATMENTS:
                    self.assertEqual(answer_program(other, program, treatment),
                                     answer_program(book, program, treatment))
        self.assertGreater(changes, 30)


def changed_elsewhere(rng, book):
    """The book with a table entry changed that does not matter, or None."""
    told = told_words(book)
    free = [word for word in range(1, book.many) if word not in told]
    rng.shuffle(free)
    for word in free:
        tables = [[list(row) for row in table] for table in (book.deeds, book.so, book.not_so)]
        row = rng.choice(tables[rng.randrange(3)])
        for other in range(book.many):
            elder = row[word]
            row[word] = other
            if other != elder:
                try:
                    return Book(book.letters, book.tests, book.joins, book.meanings, *tables, book.first)
                except ValueError:
                    pass
            row[word] = elder
    return None


if __name__ == "__main__":
    unittest.main()
