"""Tables closed by rounds over the places, and the judge of closed tables."""

from truebooks.basics import is_sequence_of, is_whole_from
from truebooks.errors import BadOrder
from truebooks.flows import Flow, checked_entry, checked_results, first_table, go_round
from truebooks.rows import check_alphabet, is_row, row_at_most


class Climbed:
    """A closed table, how often rows climbed on the way, and how many places were passed on."""

    def __init__(self, table, climbs, passes):
        self.table = tuple(table)
        self.climbs = climbs
        self.passes = passes

    def __eq__(self, other):
        return (isinstance(other, Climbed) and self.table == other.table
                and self.climbs == other.climbs and self.passes == other.passes)


def closed_table(book, program, name, entry, *, results=(), order=None):
    """Return Climbed with the least closed table, made by rounds in an order of the places."""
    check_alphabet(book, program)
    flow = Flow(book, program, name)
    entry = checked_entry(book, flow, entry)
    results = checked_results(book, flow, results)
    order = _checked_order(flow.end, order)
    table = first_table(flow, entry)
    climbs = 0
    passed = 0
    fresh = -1
    while fresh != 0:
        fresh = go_round(flow, table, results, order)
        climbs += fresh
        passed += flow.end
    return Climbed(table, climbs, passed)


def _checked_order(many, order):
    if order is None:
        return list(range(many))
    if not is_sequence_of(order, many):
        raise BadOrder()
    if not all([is_whole_from(place, 0, many - 1) for place in order]):
        raise BadOrder()
    if sorted(order) != list(range(many)):
        raise BadOrder()
    return list(order)


def closed_fault(book, program, name, entry, table, *, results=()):
    """Return None if a table is closed, -1 if it is none, else the least place that lacks something."""
    check_alphabet(book, program)
    flow = Flow(book, program, name)
    entry = checked_entry(book, flow, entry)
    results = checked_results(book, flow, results)
    if not is_sequence_of(table, flow.end + 1):
        return -1
    if not all([row is None or is_row(book, flow.variables, row) for row in table]):
        return -1
    lacking = [] if row_at_most(book, entry, table[0]) else [0]
    for place in range(flow.end):
        if table[place] is not None:
            brought = flow.brought(place, tuple(table[place]), results[place])
            lacking.extend([target for target, after in brought
                            if not row_at_most(book, after, table[target])])
    return min(lacking, default=None)
