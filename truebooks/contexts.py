"""What rows of steps and joins do to words, and which told words they part."""

from truebooks.basics import is_sequence, is_sequence_of, is_whole
from truebooks.errors import BadSteps, BadWord
from truebooks.letters import fits_letter, fits_test
from truebooks.tables import check_word, step_word
from truebooks.told import tables_of_steps, told_words


def run_steps(book, word, steps):
    """Return the word behind steps and joins, or raise BadWord or BadSteps."""
    check_word(book, word)
    for step in _checked_steps(book, steps):
        # A join does not bring NONE back.
        if word != 0:
            word = step_word(book, step, word)
    return word


def _checked_steps(book, steps):
    """Return the list of steps as tuples, or raise BadSteps."""
    if not is_sequence(steps):
        raise BadSteps(-1)
    words = told_words(book)
    for at, step in enumerate(steps):
        if not _is_step(book, words, step):
            raise BadSteps(at)
    return [(step[0], step[1] if step[0] == "join" else tuple(step[1])) for step in steps]


def _is_step(book, words, step):
    if not is_sequence_of(step, 2):
        return False
    kind, item = step
    if kind == "join":
        return is_told(words, item)
    if kind == "deed":
        return fits_letter(item) and tuple(item) in book.letters
    return kind in ("so", "not") and fits_test(item) and tuple(item) in book.tests


def is_told(words, thing):
    """Tell whether a thing is one of the told words; True is no word."""
    return is_whole(thing) and thing in words


def parted(book, word, other):
    """Return a shortest row of steps behind which just one of two told words is NONE, or None."""
    words = told_words(book)
    if not is_told(words, word) or not is_told(words, other):
        raise BadWord()
    tables = tables_of_steps(book)
    tables.extend([(("join", told), book.joins[told]) for told in words])
    found = [(word, other)]
    ways = {found[0]: ()}
    number = 0
    while number < len(found):
        couple = found[number]
        number += 1
        for step, row in tables:
            behind = (row[couple[0]], row[couple[1]])
            if behind not in ways and behind != (0, 0):
                ways[behind] = (*ways[couple], step)
                if 0 in behind:
                    return ways[behind]
                found.append(behind)
    return None


def told_classes(book):
    """Return the told words in ascending classes of those that are not parted."""
    classes = []
    for word in told_words(book):
        kin = [members for members in classes if parted(book, members[0], word) is None]
        if kin:
            kin[0].append(word)
        else:
            classes.append([word])
    return tuple([tuple(members) for members in classes])
