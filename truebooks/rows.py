"""Rows of words: what an analysis tells of all variables of a procedure at one place."""

from truebooks.basics import is_sequence_of, is_whole_from
from truebooks.errors import OtherAlphabet
from truebooks.places import alphabet_of
from truebooks.tables import deed_row, test_row


def check_alphabet(book, program):
    """Raise OtherAlphabet if the program uses a letter or a test that the book has not."""
    letters, tests = alphabet_of(program)
    if not all([letter in book.letters for letter in letters]):
        raise OtherAlphabet()
    if not all([test in book.tests for test in tests]):
        raise OtherAlphabet()


def is_row(book, variables, row):
    """Tell whether a thing is a sequence of one word other than NONE for each variable."""
    return (is_sequence_of(row, variables)
            and all([is_whole_from(word, 1, book.many - 1) for word in row]))


def join_rows(book, one, other):
    """Return the row of the joins, variable by variable; None is below every row."""
    if one is None:
        return None if other is None else tuple(other)
    if other is None:
        return tuple(one)
    return tuple([book.joins[a][b] for a, b in zip(one, other)])


def row_at_most(book, one, other):
    """Tell whether each word of one row is at most the other's; None is at most every row."""
    if one is None:
        return True
    if other is None:
        return False
    return all([book.joins[a][b] == b for a, b in zip(one, other)])


def start_row(book, variables):
    """Return the row of that many times the first word."""
    return (book.first,) * variables


def entry_row(book, args, row, variables):
    """Return the row with which a procedure of that many variables begins, or None."""
    if row is None:
        return None
    lacking = variables - len(args)
    return tuple([row[source] for source in args]) + start_row(book, lacking)


def row_after(book, act, row, result=0):
    """Return the row behind an act; result is the word that a call brings back."""
    if row is None:
        return None
    return moved_row(ready_act(book, act), tuple(row), result)


def ready_act(book, act):
    """Return (variable, source, words): the variable gets the words' entry at the source's word.

    The source is None for a call, and all three are for what changes nothing.
    """
    word = act[0]
    if word == "stay":
        return (None, None, None)
    if word == "call":
        return (act[3], None, None)
    if word == "copy":
        return (act[1], act[2], tuple(range(book.many)))
    if word == "deed":
        return (act[1], act[1], deed_row(book, act[2]))
    return (act[1], act[1], test_row(book, act[2], word == "so"))


def moved_row(ready, row, result):
    """Return the row behind an act that ready_act made ready; the row is not None."""
    variable, source, words = ready
    if variable is None:
        return row
    word = result if source is None else words[row[source]]
    if word == 0:
        return None
    if row[variable] == word:
        return row
    return row[:variable] + (word,) + row[variable + 1:]
