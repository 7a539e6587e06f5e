"""The arrows of a procedure as a book moves rows of words along them."""

from truebooks.basics import is_sequence, is_sequence_of, is_whole_from
from truebooks.errors import BadEntry, BadResults
from truebooks.places import arrows_of
from truebooks.programs import procedure_of
from truebooks.rows import is_row, moved_row, ready_act


class Flow:
    """The arrows of one procedure, made ready for a book."""

    def __init__(self, book, program, name):
        _, self.variables, self.rows = procedure_of(program, name)
        self.name = name
        self.joins = book.joins
        # For each place the couples (act made ready, target).
        self.moves = []
        # By the places of calls, ascending: (callee, variables handed over).
        self.calls = {}
        for place, leaving in enumerate(arrows_of(program, name)):
            self.moves.append([(ready_act(book, act), target) for act, target in leaving])
            if leaving and leaving[0][0][0] == "call":
                _, callee, sources, _ = leaving[0][0]
                self.calls[place] = (callee, sources)
        self.end = len(self.moves) - 1

    def brought(self, place, row, result):
        """Return the list of couples (target, row) that a row at a place brings by its arrows."""
        return [(target, moved_row(ready, row, result)) for ready, target in self.moves[place]]


def flows_of(book, program):
    """Return the flows of all procedures by their names."""
    return {name: Flow(book, program, name) for name, _, _ in program.procedures}


def lift_row(joins, table, place, row):
    """Join a row of words or None to the row at a place; tell whether that row climbed."""
    if row is None:
        return False
    present = table[place]
    if present == row:
        return False
    if present is not None:
        row = tuple([joins[a][b] for a, b in zip(present, row)])
        if row == present:
            return False
    table[place] = row
    return True


def pass_place(flow, table, place, result):
    """Pass a place on; return the list of the targets whose rows climbed, once for each climb."""
    row = table[place]
    climbed = []
    if row is not None:
        for target, after in flow.brought(place, row, result):
            if lift_row(flow.joins, table, target, after):
                climbed.append(target)
    return climbed


def go_round(flow, table, results, order):
    """Pass on each place of an order once; return how many climbs that took."""
    climbs = 0
    for place in order:
        climbs += len(pass_place(flow, table, place, results[place]))
    return climbs


def checked_entry(book, flow, entry):
    """Return the entry of a procedure as a tuple or None, or raise BadEntry."""
    if entry is None:
        return None
    if not is_row(book, flow.variables, entry):
        raise BadEntry()
    return tuple(entry)


def checked_results(book, flow, results):
    """Return one word for each place, END included, or raise BadResults."""
    if is_sequence(results) and not results:
        return (0,) * (flow.end + 1)
    if not is_sequence_of(results, flow.end + 1):
        raise BadResults()
    if not all([is_whole_from(word, 0, book.many - 1) for word in results]):
        raise BadResults()
    return tuple(results)


def first_table(flow, entry):
    """Return the list of rows with the entry at place 0 and None at all other places."""
    return [entry] + [None] * flow.end
