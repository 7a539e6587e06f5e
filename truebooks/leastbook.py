"""The least book that is alike to a book, and told words matched between two books."""

from truebooks.books import Book
from truebooks.contexts import told_classes
from truebooks.couples import couples_told
from truebooks.paths import is_silent
from truebooks.tables import check_word, join_all
from truebooks.told import told_words

# The joins of a book with one word besides NONE.
ONE_WORD = ((0, 1), (1, 1))


def least_book(book):
    """Return the book with the fewest words that is alike to a book."""
    if is_silent(book):
        return _silent_book(book)
    classes = told_classes(book)
    # Each class has the join of its members, which is its greatest one.
    greatest = [0, *[join_all(book, members) for members in classes]]
    places = _places_of(classes)
    joins = [[places[book.joins[word][other]] for other in greatest] for word in greatest]
    tables = [[[places[row[word]] for word in greatest] for row in table]
              for table in (book.deeds, book.so, book.not_so)]
    meanings = [book.meanings[word] for word in greatest]
    return Book(book.letters, book.tests, joins, meanings, tables[0], tables[1], tables[2],
                places[book.first])


def _places_of(classes):
    """Return by told words, and for NONE, the words of the least book that stand for them."""
    places = {0: 0}
    for number, members in enumerate(classes):
        for word in members:
            places[word] = number + 1
    return places


def _silent_book(book):
    """Return the book of one word that never alarms."""
    top = join_all(book, told_words(book))
    kept = [(0, 1) for _ in book.tests]
    ended = [(0, 0) for _ in book.tests]
    return Book(book.letters, book.tests, ONE_WORD, [book.meanings[0], book.meanings[top]],
                [(0, 1) for _ in book.letters], kept, ended, 1)


def class_of(book, word):
    """Return the word of the least book that stands for a word, None if it is not told."""
    check_word(book, word)
    if is_silent(book):
        classes = (told_words(book),)
    else:
        classes = told_classes(book)
    return _places_of(classes).get(word)


def told_match(one, other):
    """Return the couples that match the told words of two books by all they do, or None."""
    couples = couples_told(one, other)
    # What is told of words that match leads both to NONE or none of them.
    if any([0 in couple for couple in couples]):
        return None
    words = {word: True for word, _ in couples}
    partners = {partner: True for _, partner in couples}
    if len(words) < len(couples) or len(partners) < len(couples):
        return None
    return ((0, 0), *couples)
