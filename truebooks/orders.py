"""Orders of work: orders of places by numbers, and climbing by picks."""

from truebooks.basics import is_sequence, is_whole
from truebooks.errors import BadPicks
from truebooks.flows import Flow, checked_entry, checked_results, first_table, pass_place
from truebooks.rounds import Climbed
from truebooks.rows import check_alphabet

MOST_PICKS = 60


def order_of(number, many):
    """Return the order of the places 0 to many - 1 that a number from 0 tells."""
    left = list(range(many))
    order = []
    while left:
        number, at = divmod(number, len(left))
        order.append(left.pop(at))
    return tuple(order)


def checked_picks(picks):
    """Return picks as a tuple, or raise BadPicks."""
    if not is_sequence(picks) or len(picks) > MOST_PICKS:
        raise BadPicks()
    if not all([is_whole(pick) and pick >= 0 for pick in picks]):
        raise BadPicks()
    return tuple(picks)


def pick_at(picks, turn):
    """Return the pick for a turn: picks are gone round, and 0 if there are none."""
    return picks[turn % len(picks)] if picks else 0


def climb_by(book, program, name, entry, picks, *, results=()):
    """Return Climbed with the least closed table, the places passed on as picks tell."""
    check_alphabet(book, program)
    flow = Flow(book, program, name)
    entry = checked_entry(book, flow, entry)
    picks = checked_picks(picks)
    results = checked_results(book, flow, results)
    table = first_table(flow, entry)
    waiting = [] if entry is None or flow.end == 0 else [0]
    climbs = 0
    turn = 0
    while waiting:
        place = waiting.pop(pick_at(picks, turn) % len(waiting))
        turn += 1
        climbed = pass_place(flow, table, place, results[place])
        climbs += len(climbed)
        for target in climbed:
            if target < flow.end:
                _let_wait(waiting, target)
    return Climbed(table, climbs, turn)


def _let_wait(waiting, place):
    """Put a place into the ascending list of the places that wait, unless it is there."""
    low = 0
    high = len(waiting)
    while low < high:
        middle = (low + high) // 2
        if waiting[middle] < place:
            low = middle + 1
        else:
            high = middle
    if low == len(waiting) or waiting[low] != place:
        waiting.insert(low, place)
