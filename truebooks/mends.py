"""The least selections of raises that make a book never lie."""

from itertools import combinations

from truebooks.basics import is_sequence
from truebooks.errors import BadPool, BadRaise
from truebooks.lies import NeverLies, verdict
from truebooks.tables import raised_book

MOST_POOL = 6


def least_mends(book, pool):
    """Return the selections of a pool that mend a book while none of their parts does."""
    _check_pool(book, pool)
    mends = []
    indexes = list(range(len(pool)))
    for many in range(len(pool) + 1):
        for selection in combinations(indexes, many):
            if not any([_is_part(mend, selection) for mend in mends]):
                if _mends(book, [pool[index] for index in selection]):
                    mends.append(selection)
    return tuple(mends)


def _check_pool(book, pool):
    if not is_sequence(pool) or not 1 <= len(pool) <= MOST_POOL:
        raise BadPool(-1)
    seen = []
    for at, item in enumerate(pool):
        if _is_refused(book, item) or tuple(item[:3]) in seen:
            raise BadPool(at)
        seen.append(tuple(item[:3]))


def _is_refused(book, item):
    """Tell whether an item is no raise for what the book's tables tell now."""
    try:
        raised_book(book, [item])
    except BadRaise as error:
        # At -1 it is refused for its row, which another raise may put right.
        return error.at == 0
    return False


def _is_part(mend, selection):
    return all([index in selection for index in mend])


def _mends(book, raises):
    """Tell whether all these raises make a book, and one that never lies."""
    try:
        raised = raised_book(book, raises)
    except BadRaise:
        return False
    return isinstance(verdict(raised), NeverLies)
