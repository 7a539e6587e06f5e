"""Gaps of books, lots that show that a book never lies, and tight meanings."""

from truebooks.basics import is_sequence_of
from truebooks.books import Book
from truebooks.errors import StillLies
from truebooks.letters import lot_after, lot_of_test
from truebooks.lies import Lies, verdict
from truebooks.lots import Lot, both_lot, either_lot, empty_lot, less_lot, within
from truebooks.reach import least_made_outside
from truebooks.tables import at_most, covers_first, covers_row, covers_test
from truebooks.told import book_steps, tables_of_steps, told_words


def lot_behind(step, lot):
    """Return what a step makes of a lot: ("deed", letter), ("so", test), ("not", test), ("stay",)."""
    if step[0] == "stay":
        return lot
    if step[0] == "deed":
        return lot_after(step[1], lot)
    passing = lot_of_test(step[1])
    return both_lot(lot, passing) if step[0] == "so" else less_lot(lot, passing)


def all_gaps(book):
    """Return all gaps (step, word, number), by steps in order and then by words."""
    gaps = []
    if covers_first(book) is not None:
        gaps.append((("first",), book.first, 0))
    for step in book_steps(book):
        for word in range(book.many):
            number = _gap_at(book, step, word)
            if number is not None:
                gaps.append((step, word, number))
    return tuple(gaps)


def _gap_at(book, step, word):
    kind, item = step
    if kind == "deed":
        return covers_row(book, item, word)
    return covers_test(book, item, kind == "so", word)


def first_gap(book):
    """Return the first gap of a book, or None if it covers."""
    gaps = all_gaps(book)
    return gaps[0] if gaps else None


def meanings_fault(book, lots):
    """Return None if lots show that a book never lies, else the first (what, word, number)."""
    if not is_sequence_of(lots, book.many) or not all([isinstance(lot, Lot) for lot in lots]):
        return ("form", 0, 0)
    words = told_words(book)
    for word in (0, *words):
        number = within(lots[word], book.meanings[word])
        if number is not None:
            return ("outside", word, number)
    if 0 not in lots[book.first]:
        return ("first", book.first, 0)
    for step, row in tables_of_steps(book):
        for word in words:
            number = least_made_outside(step, lots[word], lots[row[word]])
            if number is not None:
                return (step, word, number)
    return _join_fault(book, words, lots)


def _join_fault(book, words, lots):
    """Return the first fault of a told word's lot that is not within that of a join, or None."""
    for word in words:
        for other in words:
            number = within(lots[word], lots[book.joins[word][other]])
            if number is not None:
                return (("join", other), word, number)
    return None


def tight_book(book):
    """Return the book with the least meanings for its told words, or raise StillLies or BadBook."""
    told = verdict(book)
    if isinstance(told, Lies):
        raise StillLies()
    words = told_words(book)
    meanings = []
    for word in range(book.many):
        meaning = empty_lot()
        for below in words:
            if at_most(book, below, word):
                meaning = either_lot(meaning, told.lots[below])
        meanings.append(meaning)
    return Book(book.letters, book.tests, book.joins, meanings, book.deeds, book.so, book.not_so,
                book.first)
