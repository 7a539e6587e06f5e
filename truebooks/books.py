"""Books: what a static analysis says of words, letters and tests."""

from truebooks.basics import is_sequence, is_sequence_of, is_whole_from
from truebooks.errors import BadBook
from truebooks.letters import fits_letter, fits_test
from truebooks.lots import Lot, within

MOST_LETTERS = 10
MOST_TESTS = 6
MOST_WORDS = 12
MOST_MODULUS = 60
FARTHEST = 200


class Book:
    """An alphabet and words: their joins, meanings and tables, and the first word."""

    def __init__(self, letters, tests, joins, meanings, deeds, so, not_so, first):
        self.letters = _checked_letters(letters)
        self.tests = _checked_tests(tests)
        self.joins = _checked_joins(joins)
        self.meanings = _checked_meanings(meanings, self.joins)
        self.deeds = _checked_table(deeds, len(self.letters), self.joins, "deeds", "deed")
        self.so = _checked_table(so, len(self.tests), self.joins, "so", "so row")
        self.not_so = _checked_table(not_so, len(self.tests), self.joins, "not", "not row")
        if not is_whole_from(first, 1, len(self.joins) - 1):
            raise BadBook("first", 0)
        self.first = first

    def __eq__(self, other):
        return (isinstance(other, Book) and self.letters == other.letters
                and self.tests == other.tests and self.joins == other.joins
                and self.meanings == other.meanings and self.deeds == other.deeds
                and self.so == other.so and self.not_so == other.not_so
                and self.first == other.first)

    @property
    def many(self):
        """How many words there are, NONE included."""
        return len(self.joins)

    @property
    def top(self):
        """The join of all words."""
        word = 0
        for other in range(len(self.joins)):
            word = self.joins[word][other]
        return word


def _checked_letters(letters):
    if not is_sequence(letters) or not 1 <= len(letters) <= MOST_LETTERS:
        raise BadBook("letters", -1)
    _check_unlike("letters", letters, [fits_letter(letter) for letter in letters])
    letters = tuple([tuple(letter) for letter in letters])
    if ("set", 0) not in letters:
        raise BadBook("letters", -1)
    return letters


def _checked_tests(tests):
    if not is_sequence(tests) or len(tests) > MOST_TESTS:
        raise BadBook("tests", -1)
    _check_unlike("tests", tests, [fits_test(test) for test in tests])
    return tuple([tuple(test) for test in tests])


def _check_unlike(what, items, fits):
    """Raise BadBook at the first item that does not fit or equals an earlier one."""
    seen = {}
    for at, item in enumerate(items):
        if not fits[at] or tuple(item) in seen:
            raise BadBook(what, at)
        seen[tuple(item)] = True


def _is_row(row, many):
    """Tell whether a row has one word for each of many words."""
    return is_sequence_of(row, many) and all([is_whole_from(word, 0, many - 1) for word in row])


def _checked_joins(joins):
    if not is_sequence(joins) or not 2 <= len(joins) <= MOST_WORDS:
        raise BadBook("joins", -1)
    many = len(joins)
    for at, row in enumerate(joins):
        if not _is_row(row, many):
            raise BadBook("joins", at)
    joins = tuple([tuple(row) for row in joins])
    words = list(range(many))
    for a in words:
        if joins[a][a] != a:
            raise BadBook("itself", a)
    for a in words:
        if any([joins[a][b] != joins[b][a] for b in words]):
            raise BadBook("turned", a)
    for a in words:
        if joins[0][a] != a:
            raise BadBook("none", a)
    for a in words:
        if any([joins[joins[a][b]][c] != joins[a][joins[b][c]] for b in words for c in words]):
            raise BadBook("grouped", a)
    return joins


def _checked_meanings(meanings, joins):
    many = len(joins)
    if not is_sequence_of(meanings, many):
        raise BadBook("meanings", -1)
    for at, lot in enumerate(meanings):
        if not _is_meaning(lot):
            raise BadBook("meanings", at)
    if not meanings[0].bare:
        raise BadBook("empty", 0)
    for a in range(many):
        for b in range(many):
            if joins[b][a] == a and within(meanings[b], meanings[a]) is not None:
                raise BadBook("rising", a)
    return tuple(meanings)


def _is_meaning(lot):
    return (isinstance(lot, Lot) and lot.modulus <= MOST_MODULUS
            and lot.low >= -FARTHEST and lot.high <= FARTHEST)


def _checked_table(table, length, joins, what, what_row):
    """Return a table of so many rows that rise and keep NONE, as tuples."""
    if not is_sequence_of(table, length):
        raise BadBook(what, -1)
    for at, row in enumerate(table):
        if not _is_row(row, len(joins)):
            raise BadBook(what, at)
    for at, row in enumerate(table):
        if row[0] != 0 or not rises(joins, row):
            raise BadBook(what_row, at)
    return tuple([tuple(row) for row in table])


def rises(joins, row):
    """Tell whether the entry of a row at a word is at most that at each greater word."""
    words = list(range(len(joins)))
    return all([joins[row[a]][row[b]] == row[b] for a in words for b in words if joins[a][b] == b])
