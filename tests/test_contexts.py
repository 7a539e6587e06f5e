"""Rows of steps, classes of told words and the least book [13.1] to [13.7]."""

import itertools
import random
import unittest

from randoms import random_book, remade, sound_book, two_books
from support import FOUR, error_of, parity_book, sibling_book, sign_book
from truebooks.beneath import beneath_lots
from truebooks.books import Book
from truebooks.contexts import parted, run_steps, told_classes
from truebooks.leastbook import class_of, least_book, told_match
from truebooks.lies import NeverLies, verdict
from truebooks.lots import either_lot, empty_lot, whole_lot
from truebooks.paths import is_silent
from truebooks.tables import renamed_book
from truebooks.told import told_words
from truebooks.twobooks import alike

ADD = ("deed", ("add", 1))


def steps_of(book):
    """All steps with their rows, the joins with told words included."""
    steps = [(("deed", letter), row) for letter, row in zip(book.letters, book.deeds)]
    for test, so, not_so in zip(book.tests, book.so, book.not_so):
        steps += [(("so", test), so), (("not", test), not_so)]
    return steps + [(("join", word), book.joins[word]) for word in told_words(book)]


def plain_parted(book):
    """Couples of told words that are parted, by going back from where one is NONE."""
    words = range(book.many)
    rows = [row for _, row in steps_of(book)]
    rows = [[0, *row[1:]] for row in rows]
    apart = {(w, u) for w in words for u in words if (w == 0) != (u == 0)}
    while True:
        more = {(w, u) for w in words for u in words if any((row[w], row[u]) in apart for row in rows)}
        if more <= apart:
            return apart
        apart |= more


def with_copies(rng, book):
    """A book in which some told words have a twin that does the same, or None."""
    many = book.many
    if many > 6:
        return None
    # Word 2 w or 2 w - 1 for each w; adding tells the twin with a bit that joins keep.
    names = [0] + [code for word in range(1, many) for code in (2 * word - 1, 2 * word)]
    word_of = [0] + [(name + 1) // 2 for name in names[1:]]
    bit_of = [0] + [(name + 1) % 2 for name in names[1:]]

    def code(word, bit):
        return 0 if word == 0 else 2 * word - 1 + bit

    joins = [[code(book.joins[word_of[a]][word_of[b]], max(bit_of[a], bit_of[b])) for b in names] for a in names]
    bits = {}

    def row_of(row, key):
        bits[key] = rng.choice((0, 1))
        return [code(row[word_of[a]], max(bit_of[a], bits[key])) for a in names]

    return Book(book.letters, book.tests, joins, [book.meanings[word_of[a]] for a in names],
                [row_of(row, ("d", k)) for k, row in enumerate(book.deeds)],
                [row_of(row, ("s", k)) for k, row in enumerate(book.so)],
                [row_of(row, ("n", k)) for k, row in enumerate(book.not_so)], code(book.first, 0))


class StepsTest(unittest.TestCase):
    def test_steps(self):
        book = sign_book()
        self.assertEqual(run_steps(book, 1, ()), 1)
        self.assertEqual(run_steps(book, 1, [ADD, ("join", 1)]), 3)
        self.assertEqual(run_steps(book, 1, (ADD, ("so", ("is", 0)))), 0)
        self.assertEqual(run_steps(book, 3, [["deed", ["turn"]], ["not", ["below", 1]], ["join", 2]]), 2)
        # NONE stays NONE, also behind a join.
        self.assertEqual(run_steps(book, 1, (ADD, ("so", ("is", 0)), ("join", 3), ADD)), 0)
        self.assertEqual(run_steps(book, 0, (("join", 3),)), 0)
        self.assertEqual(run_steps(book, 0, (ADD,)), 0)

    def test_words_that_are_not_told(self):
        book = parity_book(deeds=((0, 1, 1, 1), (0, 1, 2, 3)))
        self.assertEqual(run_steps(book, 2, (ADD,)), 2)
        self.assertEqual(run_steps(book, 2, (("join", 1),)), 3)
        self.assertEqual(error_of(run_steps, book, 2, (("join", 2),)), ("BadSteps", 0))

    def test_errors_in_their_order(self):
        book = sign_book()
        for word in (-1, 4, True, None, "1", (1,)):
            self.assertEqual(error_of(run_steps, book, word, None), ("BadWord",))
        for steps in (None, 3, "deed", {}):
            self.assertEqual(error_of(run_steps, book, 1, steps), ("BadSteps", -1))
        wrong = (None, (), ("deed",), ("deed", ("add", 1), 0), ("deed", ("add", 2)), ("deed", ("add", True)),
                 ("deed", "turn"), ("deed", None), ("deed", ("is", 0)), ("so", ("is", 1)), ("so", ("add", 1)),
                 ("not", ("below", True)), ("join", 0), ("join", 4), ("join", -1), ("join", True), ("join", None),
                 ("join", (1,)), ("stay",), ("stay", 1), ("stay", ("is", 0)), ("deed", ("is", 0)), ("step", ADD), (["deed"], ("add", 1)), ("deed", ("set", False)),
                 "so", {"so": 1}, ("deed", [["add"], 1]))
        for step in wrong:
            self.assertEqual(error_of(run_steps, book, 1, (step,)), ("BadSteps", 0), step)
            # All steps are checked ahead of the first one, also behind NONE.
            self.assertEqual(error_of(run_steps, book, 0, [ADD, ["so", ["is", 0]], step, None]), ("BadSteps", 2), step)


class PartedTest(unittest.TestCase):
    def test_the_example(self):
        book = sibling_book()
        self.assertEqual(parted(book, 1, 2), (("so", ("is", 0)),))
        self.assertEqual(parted(book, 2, 3), (("so", ("is", 0)),))
        self.assertEqual(parted(book, 1, 3), (("not", ("is", 0)),))
        self.assertIsNone(parted(book, 2, 2))
        self.assertEqual(told_classes(book), ((1,), (2,), (3,)))

    def test_random_books(self):
        rng = random.Random(231)
        lengths = set()
        classes_seen = set()
        for _ in range(150):
            book = random_book(rng, nones=rng.choice((0.1, 0.3)), atoms=rng.choice((2, 3, 4)))
            if rng.random() < 0.4:
                book = with_copies(rng, book) or book
            words = told_words(book)
            apart = plain_parted(book)
            for word in words:
                for other in words:
                    steps = parted(book, word, other)
                    self.assertEqual(steps is not None, (word, other) in apart)
                    if steps is not None:
                        ends = [run_steps(book, word, steps), run_steps(book, other, steps)]
                        self.assertEqual(ends.count(0), 1)
                        self.assertEqual(len(steps), self.least_length(book, word, other))
                        lengths.add(len(steps))
                    self.assertEqual(steps, parted(book, word, other))
            classes = told_classes(book)
            self.assertEqual(sorted(word for members in classes for word in members), list(words))
            self.assertEqual(list(classes), sorted(classes))
            for one in classes:
                self.assertEqual(list(one), sorted(one))
                for other in classes:
                    for a, b in itertools.product(one, other):
                        self.assertEqual((a, b) in apart, one != other)
            classes_seen.add(len(classes) < len(words))
        self.assertGreater(max(lengths), 1)
        self.assertEqual(classes_seen, {True, False})

    def least_length(self, book, word, other):
        """The least length of steps that part two words, by all couples of each length."""
        rows = [row for _, row in steps_of(book)]
        couples = {(word, other)}
        length = 0
        while True:
            length += 1
            couples = {(row[a] if a else 0, row[b] if b else 0) for a, b in couples for row in rows}
            if any((a == 0) != (b == 0) for a, b in couples):
                return length

    def test_longer_rows(self):
        # Words of a chain that a letter lowers step by step; a test ends only the lowest one.
        joins = [[max(a, b) for b in range(6)] for a in range(6)]
        book = Book((("set", 0), ("add", 1)), (("is", 3),), joins, [empty_lot()] + [whole_lot()] * 5,
                    ((0, 5, 5, 5, 5, 5), (0, 1, 1, 2, 3, 4)), ((0, 0, 2, 3, 4, 5),), ((0, 1, 2, 3, 4, 5),), 5)
        self.assertEqual(told_classes(book), ((1,), (2,), (3,), (4,), (5,)))
        for word in range(2, 6):
            for other in range(1, word):
                want = (ADD,) * (other - 1) + (("so", ("is", 3)),)
                self.assertEqual(parted(book, word, other), want)

    def test_joins_part(self):
        # Both words pass and fail alike, but not behind a join with the third one.
        sets = [frozenset(), frozenset("a"), frozenset("b"), frozenset("c"), frozenset("ab"), frozenset("ac"),
                frozenset("bc"), frozenset("abc")]
        joins = [[sets.index(a | b) for b in sets] for a in sets]
        # The test ends all words but those that hold both a and c.
        row = [at if {"a", "c"} <= word else 0 for at, word in enumerate(sets)]
        book = Book((("set", 0), ("add", 1), ("add", 2)), (("is", 0),), joins, [empty_lot()] + [whole_lot()] * 7,
                    ([0] + [1] * 7, [0] + [2] * 7, [0] + [3] * 7), (row,), ((0,) * 8,), 1)
        self.assertEqual(parted(book, 1, 2), (("join", 3), ("so", ("is", 0))))

    def test_words_that_are_not_told(self):
        book = parity_book(deeds=((0, 1, 1, 1), (0, 1, 2, 3)))
        for word in (0, 2, 3, 4, -1, True, None, "1", (1,)):
            self.assertEqual(error_of(parted, book, word, 1), ("BadWord",))
            self.assertEqual(error_of(parted, book, 1, word), ("BadWord",))
        self.assertIsNone(parted(book, 1, 1))


class LeastTest(unittest.TestCase):
    def check_least(self, book):
        least = least_book(book)
        self.assertIsInstance(least, Book)
        self.assertEqual((least.letters, least.tests), (book.letters, book.tests))
        self.assertIsNone(alike(book, least))
        self.assertEqual(told_words(least), tuple(range(1, least.many)))
        self.assertEqual(least_book(least), least)
        names = [class_of(book, word) for word in range(book.many)]
        told = told_words(book)
        self.assertEqual(names[0], 0)
        for word in range(1, book.many):
            self.assertEqual(names[word] is not None, word in told)
        lots = beneath_lots(book)
        least_lots = beneath_lots(least)
        if isinstance(verdict(book), NeverLies):
            self.assertIsInstance(verdict(least), NeverLies)
        if not is_silent(book):
            self.assertEqual(least.many, 1 + len(told_classes(book)))
            for number, members in enumerate(told_classes(book)):
                self.assertEqual({names[word] for word in members}, {number + 1})
                top = max(members, key=lambda word: sum(book.joins[word][other] == word for other in members))
                self.assertEqual(least.meanings[number + 1], book.meanings[top])
                lot = empty_lot()
                for word in members:
                    lot = either_lot(lot, lots[word])
                self.assertEqual(least_lots[number + 1], lot)
            self.assertEqual(least.first, names[book.first])
            for a, b in itertools.product((0, *told), repeat=2):
                self.assertEqual(least.joins[names[a]][names[b]], names[book.joins[a][b]])
            for mine, other in zip((*book.deeds, *book.so, *book.not_so), (*least.deeds, *least.so, *least.not_so)):
                for word in told:
                    self.assertEqual(other[names[word]], names[mine[word]])
        return least

    def test_random_books(self):
        rng = random.Random(232)
        smaller = silent = 0
        for _ in range(120):
            book = random_book(rng, nones=rng.choice((0.1, 0.3, 0.8)), atoms=rng.choice((2, 3, 4)),
                               tests=rng.choice((0, 1, 2, 2)))
            if rng.random() < 0.4:
                book = with_copies(rng, book) or book
            least = self.check_least(book)
            smaller += 2 < least.many <= len(told_words(book))
            silent += is_silent(book)
        self.assertGreater(smaller, 5)
        self.assertGreater(silent, 5)

    def test_books_that_never_lie(self):
        rng = random.Random(233)
        for _ in range(25):
            self.assertIsInstance(verdict(self.check_least(sound_book(rng, nones=0.1))), NeverLies)

    def test_the_example(self):
        book = sibling_book()
        self.assertEqual(least_book(book), book)
        # A further word above all that is never told.
        joins = [[*row, 4] for row in FOUR] + [[4] * 5]
        wider = Book(book.letters, book.tests, joins, (*book.meanings, whole_lot()),
                     [(*row, 4) for row in book.deeds], [(*row, 4) for row in book.so],
                     [(*row, 4) for row in book.not_so], 1)
        self.assertEqual(least_book(wider), book)
        self.assertEqual(told_match(book, wider), ((0, 0), (1, 1), (2, 2), (3, 3)))
        self.assertIsNone(class_of(wider, 4))
        self.assertEqual(class_of(wider, 3), 3)

    def test_silent_books(self):
        book = parity_book(tests=(("is", 0),), so=((0, 0, 2, 2),), not_so=((0, 0, 0, 0),))
        least = self.check_least(book)
        self.assertEqual(least, Book(book.letters, book.tests, ((0, 1), (1, 1)), (empty_lot(), whole_lot()),
                                     ((0, 1), (0, 1)), ((0, 1),), ((0, 0),), 1))
        self.assertEqual([class_of(book, word) for word in range(4)], [0, 1, 1, 1])
        short = parity_book(deeds=((0, 1, 1, 1), (0, 1, 2, 3)))
        self.assertEqual(least_book(short).meanings[1], short.meanings[1])
        self.assertEqual([class_of(short, word) for word in range(4)], [0, 1, None, None])

    def test_words_of_no_book(self):
        for word in (4, -1, True, None, "1", (1,)):
            self.assertEqual(error_of(class_of, parity_book(), word), ("BadWord",))

    def test_no_smaller_book_is_alike(self):
        # All books of two words over the alphabet; the least book of the example has four.
        book = sibling_book()
        for rows in itertools.product(((0, 0), (0, 1)), repeat=4):
            other = Book(book.letters, book.tests, ((0, 1), (1, 1)), (empty_lot(), whole_lot()), rows[:2],
                         rows[2:3], rows[3:], 1)
            self.assertIsNotNone(alike(book, other))


class MatchTest(unittest.TestCase):
    def plain_match(self, one, other):
        """The matching, if some permutation of the told words is one."""
        mine, its = told_words(one), told_words(other)
        rows = list(zip((*one.deeds, *one.so, *one.not_so), (*other.deeds, *other.so, *other.not_so)))
        if len(mine) == len(its):
            for chosen in itertools.permutations(its):
                names = {0: 0, **dict(zip(mine, chosen))}
                if names[one.first] == other.first and all(
                        names[a[w]] == b[names[w]] for a, b in rows for w in mine) and all(
                        names[one.joins[w][u]] == other.joins[names[w]][names[u]] for w in mine for u in mine):
                    return tuple(sorted(names.items()))
        return None

    def test_against_all_permutations(self):
        rng = random.Random(234)
        seen = {True: 0, False: 0}
        for _ in range(250):
            one, other = two_books(rng)
            if rng.random() < 0.4:
                names = [0] + rng.sample(range(1, one.many), one.many - 1)
                other = renamed_book(one, names)
                other = remade(other, meanings=[empty_lot()] + [whole_lot()] * (other.many - 1))
            if max(len(told_words(one)), len(told_words(other))) <= 6:
                match = told_match(one, other)
                self.assertEqual(match, self.plain_match(one, other))
                seen[match is None] += 1
                if match is not None:
                    self.assertEqual(told_match(other, one), tuple(sorted((v, w) for w, v in match)))
        self.assertGreater(min(seen.values()), 30)

    def test_alike_books_have_one_least_book(self):
        rng = random.Random(235)
        seen = {True: 0, False: 0}
        for _ in range(150):
            one, other = two_books(rng)
            if rng.random() < 0.3:
                other = with_copies(rng, one) or other
            match = told_match(least_book(one), least_book(other))
            self.assertEqual(match is not None, alike(one, other) is None)
            seen[match is None] += 1
        self.assertGreater(min(seen.values()), 20)

    def test_unlike_alphabets(self):
        book = sign_book()
        for other in (sign_book(tests=book.tests[::-1]), parity_book()):
            self.assertEqual(error_of(told_match, book, other), ("OtherAlphabet",))
            self.assertEqual(error_of(told_match, other, book), ("OtherAlphabet",))


if __name__ == "__main__":
    unittest.main()
