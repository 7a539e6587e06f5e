"""Treatments of calls: which calls of a procedure have a table of their own."""

from truebooks.basics import is_sequence_of, is_whole_from
from truebooks.errors import BadTreatment
from truebooks.programs import procedure_of
from truebooks.rows import start_row

MOST_CALLERS = 3


def check_treatment(treatment):
    """Return the treatment, a list as a tuple, or raise BadTreatment."""
    if treatment in ("entry", "one"):
        return treatment
    if not is_sequence_of(treatment, 2) or treatment[0] != "callers":
        raise BadTreatment()
    if not is_whole_from(treatment[1], 1, MOST_CALLERS):
        raise BadTreatment()
    return tuple(treatment)


def first_key(book, treatment, program):
    """Return the key with which the first procedure is run."""
    if treatment != "entry":
        return ()
    return start_row(book, procedure_of(program, program.main)[1])


def first_node(book, treatment, program):
    """Return the node with which every run begins."""
    return (program.main, first_key(book, treatment, program))


def key_of(treatment, key, name, place, callee, words):
    """Return the key of the callee for a call at a place of a node; words is the entry row."""
    if treatment == "entry":
        return tuple(words)
    if treatment == "one":
        return ()
    calls = (*key, (name, place))
    return calls[-treatment[1]:]


def node_called(treatment, node, place, callee, words):
    """Return the node that a call at a place of a node asks; words is the entry row."""
    name, key = node
    return (callee, key_of(treatment, key, name, place, callee, words))
