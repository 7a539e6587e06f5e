"""Whether all treatments of calls tell the same alarms on all programs."""

from truebooks.paths import is_silent, none_fault
from truebooks.places import place_count
from truebooks.tables import alarms_at, join_all
from truebooks.told import call_of_told, program_with_told, row_of_step, told_words
from truebooks.twobooks import Parts

# Procedures that hand a variable on; behind them the last three call places are alike.
HANDS = ("p1", "p2", "p3", "p4")


def treatments_alike(book):
    """Return None if all treatments tell the same alarms, else Parts."""
    fault = none_fault(book)
    if fault is None or is_silent(book):
        return None
    step, word, _ = fault
    top = join_all(book, told_words(book))
    handed = ("call", HANDS[0], (0,), 0)
    # By "entry" the word comes back and the step ends its block, by the others the top one does.
    block = (call_of_told(word), handed, row_of_step(step, 0), call_of_told(top, 1),
             ("need", 1, _alarming_test(book, top)))
    rows = (("either", (call_of_told(top), handed), block),)
    program = program_with_told(book, 2, rows, _handing_procedures())
    # The need is the last row of all.
    return Parts(program, program.main, place_count(program, program.main) - 1)


def _alarming_test(book, word):
    """Return the first test at which a word alarms."""
    return [test for test in book.tests if alarms_at(book, word, test)][0]


def _handing_procedures():
    """Return procedures that bring back what they are handed, each from the next one."""
    following = [("call", name, (0,), 0) for name in HANDS[1:]]
    rows = [*[(row,) for row in following], ()]
    return [(name, 1, inner) for name, inner in zip(HANDS, rows)]
