"""Couples of two books, and whether they alarm alike [12.1] to [12.4]."""

import random
import unittest

from randoms import random_book, random_program, two_books
from support import TREATMENTS, error_of, parity_book, row_at_end, sign_book, word_at
from truebooks.books import Book
from truebooks.calls import answer_program
from truebooks.couples import couple_program, couples_told
from truebooks.lots import empty_lot, whole_lot
from truebooks.places import flat_rows, row_at_place
from truebooks.programs import Program
from truebooks.runs import run_program
from truebooks.tables import renamed_book
from truebooks.twobooks import Parts, alike, finer


def plain_couples(one, other):
    """The couples by the rules of [12.2], gone over again and again."""
    tables = list(zip(one.deeds, other.deeds)) + list(zip(one.so, other.so)) + list(zip(one.not_so, other.not_so))
    members = {(one.first, other.first)}
    while True:
        more = {(a[w], b[v]) for w, v in members for a, b in tables}
        more |= {(one.joins[w][x], other.joins[v][y]) for w, v in members for x, y in members}
        if any(w == 0 and v != 0 for w, v in members):
            more |= {(0, v) for _, v in members}
        if any(v == 0 and w != 0 for w, v in members):
            more |= {(w, 0) for w, _ in members}
        more -= {(0, 0)}
        if more <= members:
            return tuple(sorted(members))
        members |= more


def alarms(book, program, treatment):
    return set(answer_program(book, program, treatment).alarm_places)


class CouplesTest(unittest.TestCase):
    def test_a_book_with_itself(self):
        book = parity_book()
        self.assertEqual(couples_told(book, book), ((1, 1), (2, 2), (3, 3)))
        self.assertEqual(couples_told(sign_book(), sign_book()), ((1, 1), (2, 2), (3, 3)))

    def test_by_hand(self):
        coarse = parity_book(deeds=((0, 1, 1, 1), (0, 3, 3, 3)))
        self.assertEqual(couples_told(parity_book(), coarse), ((1, 1), (1, 3), (2, 3), (3, 3)))
        self.assertEqual(couples_told(coarse, parity_book()), ((1, 1), (3, 1), (3, 2), (3, 3)))

    def test_kill(self):
        # In the second book adding 1 ends all, so any couple can lose its second word.
        ending = parity_book(deeds=((0, 1, 1, 1), (0, 0, 0, 0)))
        self.assertEqual(couples_told(parity_book(), ending),
                         ((1, 0), (1, 1), (2, 0), (3, 0), (3, 1)))
        self.assertEqual(couples_told(ending, ending), ((1, 1),))

    def test_against_plain_closing(self):
        rng = random.Random(211)
        kills = 0
        for _ in range(150):
            one, other = two_books(rng)
            couples = couples_told(one, other)
            self.assertEqual(couples, plain_couples(one, other))
            self.assertNotIn((0, 0), couples)
            kills += any(0 in couple for couple in couples)
        self.assertGreater(kills, 20)

    def test_programs_tell_couples_alone(self):
        rng = random.Random(212)
        steps = 0
        for _ in range(80):
            one, other = two_books(rng)
            couples = (*couples_told(one, other), (0, 0))
            program = random_program(rng, one)
            run = run_program(program, [rng.randrange(2) for _ in range(9)], 60)
            for treatment in TREATMENTS:
                answers = [(book, answer_program(book, program, treatment)) for book in (one, other)]
                for at, (_, _, _, values) in enumerate(run.steps):
                    for variable in range(len(values)):
                        couple = tuple(word_at(book, program, answer, run, at, variable)
                                       for book, answer in answers)
                        self.assertIn(couple, couples)
                        steps += 0 in couple and couple != (0, 0)
        self.assertGreater(steps, 100)


class ProgramTest(unittest.TestCase):
    def check_program(self, one, other, couple):
        program = couple_program(one, other, *couple)
        self.assertEqual(program, couple_program(one, other, *couple))
        for treatment in TREATMENTS:
            for book, word in zip((one, other), couple):
                self.assertEqual(row_at_end(book, program, treatment), (word,) if word else None)
        self.check_form(program, 299)

    def check_form(self, program, most):
        self.assertLessEqual(len(program.procedures), most)
        self.assertEqual(program.procedures[0][1], 1)
        calls = {}
        for name, variables, rows in program.procedures:
            self.assertLessEqual(variables, 2)
            flat = flat_rows(rows)
            self.assertFalse([row for row in flat if row[0] in ("need", "while")])
            self.assertTrue(all(row[2] == () for row in flat if row[0] == "call"))
            calls[name] = {row[1] for row in flat if row[0] == "call"}
        done = set()
        while len(done) < len(calls):
            ready = {name for name in calls if name not in done and calls[name] <= done}
            self.assertTrue(ready)
            done |= ready

    def test_each_member_under_each_treatment(self):
        rng = random.Random(213)
        sizes = set()
        for _ in range(40):
            one, other = two_books(rng)
            for couple in couples_told(one, other):
                self.check_program(one, other, couple)
            sizes.add(len(couples_told(one, other)))
        self.assertGreater(max(sizes), 15)

    def test_killed_couples(self):
        ending = parity_book(deeds=((0, 1, 1, 1), (0, 0, 0, 0)))
        for couple in couples_told(parity_book(), ending):
            self.check_program(parity_book(), ending, couple)
            self.check_program(ending, parity_book(), couple[::-1])

    def test_twelve_words_on_both_sides(self):
        book = wide_book(1)
        other = wide_book(3)
        couples = couples_told(book, other)
        self.assertGreater(len(couples), 100)
        for couple in couples[::9]:
            self.check_program(book, other, couple)

    def test_no_couples(self):
        book = parity_book()
        for word, partner in ((0, 0), (1, 2), (0, 1), (4, 4), (-1, 1), (True, 1), (1, True), (True, True), (None, 1),
                              (1, None), ("1", 1), ((1, 1), 1), ([1], 1)):
            self.assertEqual(error_of(couple_program, book, book, word, partner), ("NoCouple",))
        self.assertIsNone(error_of(couple_program, book, book, 1, 1))


def wide_book(by):
    """Ten words on a ring, by which adding 1 moves on, and one above them."""
    joins = [[b if a == 0 else a if b in (0, a) else 11 for b in range(12)] for a in range(12)]
    row = [0] + [(word - 1 + by) % 10 + 1 for word in range(1, 11)] + [11]
    rest = [0] + [1 + word % 2 for word in range(1, 11)] + [11]
    letters = (("set", 0), ("add", 1), ("turn",))
    first = [0] + [1] * 11
    turned = [0, *range(1, 11), 11] if by == 1 else [0, 2, 1, 4, 3, 6, 5, 8, 7, 10, 9, 11]
    return Book(letters, (("is", 0),), joins, [empty_lot()] + [whole_lot()] * 11, (first, row, turned),
                (rest,), ([0, *[word if word % by == 0 else 0 for word in range(1, 11)], 11],), 1)


class AlphabetTest(unittest.TestCase):
    def test_unlike_alphabets(self):
        book = sign_book()
        letters = book.letters
        others = (
            sign_book(letters=(letters[0], letters[1], letters[3], letters[2])),
            sign_book(letters=letters[:3], deeds=book.deeds[:3]),
            sign_book(letters=(*letters[:3], ("mod", 4))),
            sign_book(tests=book.tests[::-1]),
            sign_book(tests=book.tests[:1], so=book.so[:1], not_so=book.not_so[:1]),
            sign_book(tests=(("is", 0), ("below", 2))),
        )
        for other in others:
            for one, two in ((book, other), (other, book)):
                for function in (couples_told, alike, finer):
                    self.assertEqual(error_of(function, one, two), ("OtherAlphabet",))
                self.assertEqual(error_of(couple_program, one, two, 1, 1), ("OtherAlphabet",))
                self.assertEqual(error_of(couple_program, one, two, 9, True), ("OtherAlphabet",))


class AlikeTest(unittest.TestCase):
    def check_parts(self, parts, one, other, is_finer):
        self.assertIsInstance(parts, Parts)
        self.assertLessEqual(len(parts.program.procedures), 300)
        self.assertTrue(all(variables <= 2 for _, variables, _ in parts.program.procedures))
        self.assertEqual(row_at_place(parts.program, parts.name, parts.place)[0], "need")
        for treatment in TREATMENTS:
            place = (parts.name, parts.place)
            first = place in alarms(one, parts.program, treatment)
            second = place in alarms(other, parts.program, treatment)
            self.assertNotEqual(first, second)
            if is_finer:
                self.assertTrue(first)

    def test_alike_and_finer_both_ways_round(self):
        rng = random.Random(214)
        counts = {}
        for _ in range(150):
            one, other = two_books(rng)
            found = []
            for a, b in ((one, other), (other, one)):
                parts = alike(a, b)
                if parts is not None:
                    self.check_parts(parts, a, b, False)
                more = finer(a, b)
                if more is not None:
                    self.check_parts(more, a, b, True)
                self.assertEqual((parts, more), (alike(a, b), finer(a, b)))
                found.append((parts is None, more is None))
            self.assertEqual(found[0][0], found[1][0])
            # Alike is finer both ways round.
            self.assertEqual(found[0][0], found[0][1] and found[1][1])
            counts[found[0][0], found[0][1], found[1][1]] = counts.get((found[0][0], found[0][1], found[1][1]), 0) + 1
            program = random_program(rng, one)
            for treatment in TREATMENTS:
                first = alarms(one, program, treatment)
                second = alarms(other, program, treatment)
                self.assertTrue(not found[0][0] or first == second)
                self.assertTrue(not found[0][1] or first <= second)
                self.assertTrue(not found[1][1] or second <= first)
        # Alike, finer one way round, and neither.
        self.assertGreaterEqual(len(counts), 3, counts)
        self.assertGreater(min(counts.values()), 2, counts)

    def test_a_book_with_itself(self):
        rng = random.Random(215)
        for _ in range(60):
            book = random_book(rng, nones=rng.choice((0, 0.5)))
            self.assertIsNone(alike(book, book))
            self.assertIsNone(finer(book, book))
            names = [0] + rng.sample(range(1, book.many), book.many - 1)
            self.assertIsNone(alike(book, renamed_book(book, names)))
            self.assertIsNone(finer(renamed_book(book, names), book))

    def test_by_hand(self):
        book = sign_book()
        coarse = sign_book(deeds=((0, 1, 1, 1), (0, 2, 2, 3), (0, 3, 3, 3), (0, 1, 3, 3)))
        self.assertIsNone(finer(book, coarse))
        parts = finer(coarse, book)
        self.check_parts(parts, coarse, book, True)
        self.check_parts(alike(book, coarse), book, coarse, False)
        # NONE never alarms: where one book ends, the other one may alarm.
        ending = sign_book(deeds=((0, 1, 1, 1), (0, 0, 0, 0), (0, 1, 3, 3), (0, 1, 3, 3)))
        self.assertIsNone(finer(ending, book))
        self.check_parts(finer(book, ending), book, ending, True)
        # The words that differ never come to an alarm.
        quiet = parity_book()
        self.assertIsNone(alike(quiet, parity_book(deeds=((0, 1, 1, 1), (0, 0, 0, 0)))))

    def test_parts_keep_what_they_are_given(self):
        program = Program([("main", 1, ())])
        parts = Parts(program, "main", 3)
        self.assertEqual((parts.program, parts.name, parts.place), (program, "main", 3))
        self.assertEqual(parts, Parts(program, "main", 3))
        for other in (Parts(Program([("m", 1, ())]), "main", 3), Parts(program, "m", 3), Parts(program, "main", 2),
                      (program, "main", 3), None):
            self.assertNotEqual(parts, other)
        self.assertEqual(vars(Parts(None, [1], {2})), {"program": None, "name": [1], "place": {2}})


if __name__ == "__main__":
    unittest.main()
