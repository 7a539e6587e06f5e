"""What calls bring back that are followed only so deep, and the rows that come of it."""

from heapq import heappop, heappush

from truebooks.flows import first_table, flows_of, lift_row
from truebooks.programs import blocks_of, rows_count
from truebooks.rows import entry_row, join_rows


class Scope:
    """A procedure in a text: its name, what depth its calls have, where its variables begin."""

    def __init__(self, name, depth, base):
        self.name = name
        self.depth = depth
        self.base = base


class DepthClimb:
    """A table on its way; the calls inside bring back what one depth less says."""

    def __init__(self, wanted, flow):
        self.wanted = wanted
        self.flow = flow
        self.table = first_table(flow, wanted[1])
        self.pending = [0]
        self.stands = [True] + [False] * flow.end


class Depths:
    """Least tables by (name, entry row, depth), made when they are first asked for."""

    def __init__(self, book, program):
        self.book = book
        self.flows = flows_of(book, program)
        self.made = {}
        # The rows at the heads of loops, by what tells them.
        self.heads = {}

    def table_at(self, name, key, depth):
        """Return the least table for an entry row with a depth above 0."""
        wanted = (name, key, depth)
        if wanted not in self.made:
            # Depths may be many, so the tables that wait for others stand in a list.
            works = [DepthClimb(wanted, self.flows[name])]
            while works:
                lacking = self._climb(works[-1])
                if lacking is None:
                    work = works.pop()
                    self.made[work.wanted] = tuple(work.table)
                else:
                    works.append(DepthClimb(lacking, self.flows[lacking[0]]))
        return self.made[wanted]

    def word_back(self, name, key, depth):
        """Return the word that comes back from a procedure for an entry row with a depth."""
        if depth == 0:
            return 0
        row = self.table_at(name, key, depth)[-1]
        return 0 if row is None else row[0]

    def asked(self, name, place, row):
        """Return (callee, entry row) for a call from a row."""
        callee, sources = self.flows[name].calls[place]
        return callee, entry_row(self.book, sources, row, self.flows[callee].variables)

    def _climb(self, work):
        """Climb until a table that is not made is needed; return what it is, or None at the end."""
        name, _, depth = work.wanted
        while work.pending:
            place = work.pending[0]
            result = 0
            if place in work.flow.calls and depth > 1:
                callee, key = self.asked(name, place, work.table[place])
                if (callee, key, depth - 1) not in self.made:
                    return (callee, key, depth - 1)
                result = self.word_back(callee, key, depth - 1)
            heappop(work.pending)
            work.stands[place] = False
            for target, after in work.flow.brought(place, work.table[place], result):
                if lift_row(self.book.joins, work.table, target, after):
                    if not work.stands[target]:
                        work.stands[target] = True
                        heappush(work.pending, target)
        return None

    def row_behind(self, scope, row, place, words):
        """Return the words behind the row at a place."""
        flow = self.flows[scope.name]
        if row[0] == "stop":
            return None
        if row[0] == "while":
            head = self.head_words(scope, row, place, words)
            return flow.brought(place, head, 0)[1][1]
        if row[0] in ("if", "either"):
            joined = None
            first = place + 1
            for block, (_, inner) in zip(blocks_of(row), flow.brought(place, words, 0)):
                joined = join_rows(self.book, joined, self.block_behind(scope, block, first, inner))
                first += rows_count(block)
            return joined
        result = 0
        if row[0] == "call":
            callee, key = self.asked(scope.name, place, words)
            result = self.word_back(callee, key, scope.depth)
        return flow.brought(place, words, result)[0][1]

    def block_behind(self, scope, block, place, words):
        """Return the words behind a block whose first row is at a place."""
        for row in block:
            if words is None:
                return None
            words = self.row_behind(scope, row, place, words)
            place += rows_count((row,))
        return words

    def turn_behind(self, scope, row, place, words):
        """Return the words at a while joined with those that one turn brings from them."""
        inner = self.flows[scope.name].brought(place, words, 0)[0][1]
        return join_rows(self.book, words, self.block_behind(scope, row[3], place + 1, inner))

    def head_words(self, scope, row, place, words):
        """Return the words at a while when no turn lets them climb any more."""
        told = (scope.name, scope.depth, place, words)
        if told not in self.heads:
            elder = None
            while words != elder:
                elder = words
                words = self.turn_behind(scope, row, place, words)
            self.heads[told] = words
        return self.heads[told]
