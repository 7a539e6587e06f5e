"""The best tables for given meanings, and books made of given lots."""

from truebooks.basics import is_sequence
from truebooks.books import MOST_WORDS, Book
from truebooks.covering import lot_behind
from truebooks.errors import BadLots, NoLeast, TooLarge
from truebooks.lots import Lot, both_lot, empty_lot, just_lot, whole_lot, within
from truebooks.tables import at_most, join_two
from truebooks.told import book_steps

MOST_LOTS = 61


def least_word(book, lot):
    """Return the word whose meaning holds a lot and that is at most all such words, or None."""
    holders = [word for word in range(book.many) if within(lot, book.meanings[word]) is None]
    for word in holders:
        if all([at_most(book, word, other) for other in holders]):
            return word
    return None


def best_book(book):
    """Return the book with the least tables that cover its meanings, or raise NoLeast."""
    first = least_word(book, just_lot([0]))
    if first is None:
        raise NoLeast(("first",), 0)
    tables = {"deed": [], "so": [], "not": []}
    for step in book_steps(book):
        tables[step[0]].append([_word_for(book, step, word) for word in range(book.many)])
    return Book(book.letters, book.tests, book.joins, book.meanings,
                tables["deed"], tables["so"], tables["not"], first)


def _word_for(book, step, word):
    """Return the least word for what a step makes of a word's meaning, or raise NoLeast."""
    behind = least_word(book, lot_behind(step, book.meanings[word]))
    if behind is None:
        raise NoLeast(step, word)
    return behind


def covered_book(book):
    """Return the book with its tables joined with the best ones, or raise NoLeast."""
    best = best_book(book)
    return Book(book.letters, book.tests, book.joins, book.meanings,
                _joined_table(book, book.deeds, best.deeds), _joined_table(book, book.so, best.so),
                _joined_table(book, book.not_so, best.not_so),
                join_two(book, book.first, best.first))


def _joined_table(book, one, other):
    return [[join_two(book, word, more) for word, more in zip(row, more_row)]
            for row, more_row in zip(one, other)]


def lots_book(book, lots):
    """Return the best book over a book's alphabet whose words mean lots and what they share."""
    if not is_sequence(lots) or len(lots) > MOST_LOTS:
        raise BadLots()
    if not all([isinstance(lot, Lot) for lot in lots]):
        raise BadLots()
    meanings = _shared_meanings(lots)
    # Any tables will do for finding the best ones.
    row = [0] * len(meanings)
    table = [row for _ in book.tests]
    return best_book(Book(book.letters, book.tests, _joins_of(meanings), meanings,
                          [row for _ in book.letters], table, table, 1))


def _shared_meanings(lots):
    """Return the list of meanings that holds all lots and what any of them share."""
    meanings = [empty_lot(), whole_lot()]
    for lot in lots:
        if lot not in meanings:
            fresh = [lot, *[both_lot(lot, meaning) for meaning in meanings]]
            for meaning in fresh:
                if meaning not in meanings:
                    meanings.append(meaning)
        if len(meanings) > MOST_WORDS:
            raise TooLarge(MOST_WORDS)
    return meanings


def _joins_of(meanings):
    """Return for each two meanings the word of the least one that holds both."""
    words = list(range(len(meanings)))
    holds = [[within(meanings[word], meanings[other]) is None for other in words] for word in words]
    joins = []
    for one in words:
        row = []
        for two in words:
            holders = [word for word in words if holds[one][word] and holds[two][word]]
            row.extend([word for word in holders if all([holds[word][other] for other in holders])])
        joins.append(row)
    return joins
