"""The numbers that can stand beneath each word that can be told."""

from truebooks.numbermachine import Machine
from truebooks.reach import reach
from truebooks.tables import step_word
from truebooks.told import book_steps, told_words


def word_machine(book):
    """Return the machine with a station for each word whose runs meet exactly the couples."""
    words = told_words(book)
    arrows = []
    for word in (0, *words):
        for step in book_steps(book):
            arrows.append((word, step, step_word(book, step, word)))
        for other in words:
            joined = book.joins[word][other]
            if joined != word:
                arrows.append((word, ("stay",), joined))
    return Machine(book.many, [(book.first, 0)], arrows)


def beneath_lots(book):
    """Return for each word the lot of the numbers that can stand beneath it."""
    return reach(word_machine(book))
