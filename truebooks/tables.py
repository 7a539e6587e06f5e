"""What a book tells: joins, words behind steps, alarms; and books made from books."""

from truebooks.basics import is_sequence, is_sequence_of, is_whole_from
from truebooks.books import Book, rises
from truebooks.errors import BadNames, BadRaise, BadWord, NoLetter, NoTest
from truebooks.letters import fits_letter, fits_test, lot_after, lot_of_test
from truebooks.lots import both_lot, less_lot, within

MOST_RAISES = 60


def check_word(book, word):
    """Return the word, or raise BadWord if it is not one of the book's."""
    if not is_whole_from(word, 0, book.many - 1):
        raise BadWord()
    return word


def at_most(book, one, other):
    """Tell whether a word is at most another one."""
    return book.joins[one][other] == other


def join_two(book, one, other):
    """Return the join of two words."""
    return book.joins[one][other]


def join_all(book, words):
    """Return the join of a sequence of words, NONE if it is empty."""
    joined = 0
    for word in words:
        joined = book.joins[joined][word]
    return joined


def _letter_place(book, letter):
    # True equals 1, but a letter that tells it is none.
    if not fits_letter(letter) or letter not in book.letters:
        raise NoLetter()
    return book.letters.index(letter)


def _test_place(book, test):
    if not fits_test(test) or test not in book.tests:
        raise NoTest()
    return book.tests.index(test)


def deed_row(book, letter):
    """Return the words behind a letter at all words, or raise NoLetter."""
    return book.deeds[_letter_place(book, letter)]


def test_row(book, test, holds):
    """Return the words behind a test that holds or not at all words, or raise NoTest."""
    table = book.so if holds else book.not_so
    return table[_test_place(book, test)]


def deed_word(book, letter, word):
    """Return the word behind a letter, or raise NoLetter."""
    return deed_row(book, letter)[word]


def test_word(book, test, holds, word):
    """Return the word behind a test that holds or does not hold, or raise NoTest."""
    return test_row(book, test, holds)[word]


def step_word(book, step, word):
    """Return the word behind a step, or raise NoLetter or NoTest."""
    if step[0] == "stay":
        return word
    if step[0] == "join":
        return join_two(book, word, step[1])
    if step[0] == "deed":
        return deed_word(book, step[1], word)
    return test_word(book, step[1], step[0] == "so", word)


def alarms_at(book, word, test):
    """Tell whether the word is not NONE and the test may fail it; NoTest."""
    behind = test_word(book, test, False, word)
    return word != 0 and behind != 0


def covers_first(book):
    """Return None if the meaning of the first word has 0, else 0."""
    return None if 0 in book.meanings[book.first] else 0


def covers_row(book, letter, word):
    """Return None, or the least number that the letter leads out of the word behind."""
    behind = deed_word(book, letter, word)
    return within(lot_after(letter, book.meanings[word]), book.meanings[behind])


def covers_test(book, test, holds, word):
    """Return None, or the least number that the test lets out of the word behind."""
    behind = test_word(book, test, holds, word)
    meaning = book.meanings[word]
    passing = lot_of_test(test)
    kept = both_lot(meaning, passing) if holds else less_lot(meaning, passing)
    return within(kept, book.meanings[behind])


def raised_book(book, raises):
    """Return the book with some entries put higher, or raise BadRaise."""
    if not is_sequence(raises) or len(raises) > MOST_RAISES:
        raise BadRaise(-1)
    tables = {"deed": _rows(book.deeds), "so": _rows(book.so), "not": _rows(book.not_so)}
    for index, item in enumerate(raises):
        if not _is_raise(book, tables, item):
            raise BadRaise(index)
        kind, at, word, higher = item
        tables[kind][at][word] = higher
    for kind in ("deed", "so", "not"):
        if not all([rises(book.joins, row) for row in tables[kind]]):
            raise BadRaise(-1)
    return Book(book.letters, book.tests, book.joins, book.meanings,
                tables["deed"], tables["so"], tables["not"], book.first)


def _rows(table):
    return [list(row) for row in table]


def _is_raise(book, tables, item):
    """Tell whether an item says a raise that puts higher what now stands in the tables."""
    if not is_sequence_of(item, 4) or item[0] not in ("deed", "so", "not"):
        return False
    kind, at, word, higher = item
    if not is_whole_from(at, 0, len(tables[kind]) - 1):
        return False
    if not is_whole_from(word, 1, book.many - 1) or not is_whole_from(higher, 0, book.many - 1):
        return False
    present = tables[kind][at][word]
    return present != higher and at_most(book, present, higher)


def renamed_book(book, places):
    """Return the book in which each word a is called places[a], or raise BadNames."""
    words = list(range(book.many))
    if not is_sequence_of(places, book.many):
        raise BadNames()
    if not all([is_whole_from(place, 0, book.many - 1) for place in places]):
        raise BadNames()
    if places[0] != 0 or sorted(places) != words:
        raise BadNames()
    elder = [places.index(word) for word in words]
    joins = [_renamed_row(book.joins[word], places, elder) for word in elder]
    meanings = [book.meanings[word] for word in elder]
    tables = [[_renamed_row(row, places, elder) for row in table]
              for table in (book.deeds, book.so, book.not_so)]
    return Book(book.letters, book.tests, joins, meanings,
                tables[0], tables[1], tables[2], places[book.first])


def _renamed_row(row, places, elder):
    """Return a row by new words; elder tells the old word of each new one."""
    return [places[row[word]] for word in elder]
