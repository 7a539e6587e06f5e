"""Told words: the words other than NONE that some program has at some place."""

from truebooks.basics import is_whole_from
from truebooks.errors import NotTold
from truebooks.letters import fits_letter, fits_test
from truebooks.packages import reached_program
from truebooks.programs import Program
from truebooks.tables import step_word

STOP = (("stop",),)


def tables_of_steps(book):
    """Return the list of couples (step, row of the words behind it), in the order of the book."""
    tables = [(("deed", letter), row) for letter, row in zip(book.letters, book.deeds)]
    for test, so, not_so in zip(book.tests, book.so, book.not_so):
        tables.append((("so", test), so))
        tables.append((("not", test), not_so))
    return tables


def book_steps(book):
    """Return the tuple of the steps of a book: its deeds, then both sides of each test."""
    return tuple([step for step, _ in tables_of_steps(book)])


def told_words(book):
    """Return the ascending told words."""
    return tuple(sorted([word for word, _ in told_lines(book)]))


def told_lines(book):
    """Return one line (word, why) for each told word; it leans on lines ahead alone."""
    lines = [(book.first, ("first",))]
    words = {book.first: True}
    steps = book_steps(book)
    number = 0
    while number < len(lines):
        word = lines[number][0]
        fresh = [(step_word(book, step, word), ("step", number, step)) for step in steps]
        fresh.extend([(book.joins[word][lines[elder][0]], ("join", number, elder))
                      for elder in range(number)])
        for behind, why in fresh:
            if behind != 0 and behind not in words:
                words[behind] = True
                lines.append((behind, why))
        number += 1
    return tuple(lines)


def told_fault(book, lines):
    """Return None if lines are right and hold all told words, else the first fault."""
    words = []
    for number, line in enumerate(lines):
        if not _is_right(book, words, line):
            return ("line", number)
        words.append(line[0])
    for word in told_words(book):
        if word not in words:
            return ("open", word)
    return None


def _is_right(book, words, line):
    """Tell whether a line is right behind lines of these words."""
    if not isinstance(line, tuple) or len(line) != 2:
        return False
    word, why = line
    if not is_whole_from(word, 1, book.many - 1) or word in words:
        return False
    if not isinstance(why, tuple):
        return False
    last = len(words) - 1
    if why == ("first",):
        return word == book.first
    if len(why) != 3 or not is_whole_from(why[1], 0, last):
        return False
    if why[0] == "join":
        return is_whole_from(why[2], 0, last) and book.joins[words[why[1]]][words[why[2]]] == word
    if why[0] != "step" or not _is_step(book, why[2]):
        return False
    return step_word(book, why[2], words[why[1]]) == word


def _is_step(book, step):
    """Tell whether a thing is one of the steps of a book."""
    if not isinstance(step, tuple) or len(step) != 2:
        return False
    # True equals 1, but a letter or a test that tells it is none.
    if not fits_letter(step[1]) and not fits_test(step[1]):
        return False
    return step in book_steps(book)


def bar(variable, test, holds):
    """Return the row that lets through only the numbers that pass, or do not pass, a test."""
    return ("if", variable, test, (), STOP) if holds else ("if", variable, test, STOP, ())


def row_of_step(step, variable):
    """Return the row that does a step on a variable: a deed, or the bar for a test's side."""
    kind, item = step
    if kind == "deed":
        return ("deed", variable, item)
    return bar(variable, item, kind == "so")


def told_procedures(book):
    """Return one procedure for each told word, by words ascending, that has the word at END."""
    lines = told_lines(book)
    rows = {word: _rows_of(lines, why) for word, why in lines}
    return tuple([(_name_of(word), 1, rows[word]) for word in sorted(rows)])


def _name_of(word):
    return f"t{word}"


def call_of_told(word, variable=0):
    """Return the row that brings a told word into a variable."""
    return ("call", _name_of(word), (), variable)


def program_with_told(book, variables, rows, helpers=()):
    """Return the program of main, with what its rows lead to of helpers and told procedures."""
    return reached_program([("main", variables, rows), *helpers, *told_procedures(book)])


def _rows_of(lines, why):
    """Return rows that make a word from calls of the procedures of elder words."""
    if why[0] == "first":
        return ()
    elder = call_of_told(lines[why[1]][0])
    if why[0] == "join":
        return (("either", (elder,), (call_of_told(lines[why[2]][0]),)),)
    return (elder, row_of_step(why[2], 0))


def told_program(book, word):
    """Return a program that tells a word at END of main, or raise NotTold."""
    if not is_whole_from(word, 1, book.many - 1) or word not in told_words(book):
        raise NotTold(word)
    return Program([("main", 1, (call_of_told(word),)), *told_procedures(book)])


def rows_that_matter(book):
    """Return the ascending table entries (kind, at, word) that answers can hang on."""
    words = told_words(book)
    entries = [("deed", at, word) for at in range(len(book.letters)) for word in words]
    entries.extend([("join", word, other) for word in words for other in words if word < other])
    for kind in ("not", "so"):
        entries.extend([(kind, at, word) for at in range(len(book.tests)) for word in words])
    return tuple(entries)
