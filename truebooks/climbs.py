"""A table that climbs in single steps."""

from truebooks.flows import (
    Flow, checked_entry, checked_results, first_table, go_round, lift_row, pass_place,
)
from truebooks.rows import check_alphabet, row_at_most


class Climb:
    """The work of closing a table; table is the present one, climbs counts the climbs."""

    def __init__(self, book, program, name, entry):
        check_alphabet(book, program)
        self._book = book
        self._flow = Flow(book, program, name)
        entry = checked_entry(book, self._flow, entry)
        self.table = tuple(first_table(self._flow, entry))
        self.climbs = 0

    def _keep(self, table, climbs):
        self.table = tuple(table)
        self.climbs += climbs
        return climbs

    def pass_on(self, place, result=0):
        """Pass a place on, with what comes back if a call stands there; tell whether a row climbed."""
        table = list(self.table)
        climbed = pass_place(self._flow, table, place, result)
        return self._keep(table, len(climbed)) > 0

    def enter(self, row):
        """Join a row of words or None to the row of place 0; tell whether it climbed."""
        row = checked_entry(self._book, self._flow, row)
        table = list(self.table)
        climbed = lift_row(self._flow.joins, table, 0, row)
        self._keep(table, 1 if climbed else 0)
        return climbed

    def settle(self, results=()):
        """Go rounds until one in which no row climbs; return how many climbs that took."""
        words = checked_results(self._book, self._flow, results)
        table = list(self.table)
        climbs = 0
        fresh = -1
        while fresh != 0:
            fresh = go_round(self._flow, table, words, list(range(self._flow.end)))
            climbs += fresh
        return self._keep(table, climbs)

    def settled(self, results=()):
        """Tell whether no pass of any place would let a row climb."""
        words = checked_results(self._book, self._flow, results)
        for place in range(self._flow.end):
            row = self.table[place]
            if row is not None:
                for target, after in self._flow.brought(place, row, words[place]):
                    if not row_at_most(self._book, after, self.table[target]):
                        return False
        return True
