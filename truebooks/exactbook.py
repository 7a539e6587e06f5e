"""Books that are exact on a plain program."""

from truebooks.bestbook import lots_book
from truebooks.placelots import place_lots
from truebooks.rows import check_alphabet


def exact_book(book, program):
    """Return the book over a book's alphabet that tells exactly the lots of a plain program."""
    check_alphabet(book, program)
    return lots_book(book, place_lots(program))
