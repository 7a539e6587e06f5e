"""The tables of all nodes of a program, climbing together until they are closed."""

from heapq import heappop, heappush

from truebooks.flows import lift_row
from truebooks.nodemaps import NodeMap
from truebooks.orders import pick_at


class NodeWork:
    """The table of one node on its way: places to pass on, and the calls that ask the node."""

    def __init__(self, number, node, flow):
        self.number = number
        self.node = node
        self.flow = flow
        self.table = [None] * (flow.end + 1)
        # A heap of places that wait, each once; stands tells which ones do.
        self.pending = []
        self.stands = [False] * (flow.end + 1)
        # Whether the node itself waits or is worked on.
        self.awake = False
        # Couples (number of the asking node's work, place).
        self.callers = {}

    def result(self):
        """Return the word that comes back from the node."""
        row = self.table[self.flow.end]
        return 0 if row is None else row[0]


class Family(NodeMap):
    """All nodes that are asked on the way; kept tables are closed ones by their nodes."""

    def __init__(self, book, program, treatment, kept):
        NodeMap.__init__(self, book, program, treatment)
        self.kept = kept
        self.works = []
        self.work_of = {}
        self.waiting = []

    def settle(self, picks):
        """Climb until all tables are closed; picks tell which waiting node is next."""
        first = self._begun(self.first)
        self.bring(first, 0, self.start(), ("start",))
        turn = 0
        while self.waiting:
            # Without picks the node that was asked last is next, so callees come first.
            back = pick_at(picks, turn) % len(self.waiting)
            number = self.waiting.pop(len(self.waiting) - 1 - back)
            turn += 1
            self._work_off(number)

    def told_tables(self):
        """Return the tables of the nodes that are asked from the first one, by nodes ascending."""
        tables = {node: table for node, table in self.kept.items()}
        for work in self.works:
            tables[work.node] = tuple(work.table)
        return {node: tables[node] for node in self.reached(tables)}

    def line_at(self, work, place):
        """Return the number of the line of reasons for the row at a place; here there are none."""
        return -1

    def write_lines(self, work, place, row, why):
        """Write lines of reasons for a row that let that of a place climb; here there are none."""

    def bring(self, work, place, row, why):
        """Join a row or None to that of a place; why is for lines of reasons."""
        elder = work.result()
        if not lift_row(self.book.joins, work.table, place, row):
            return
        self.write_lines(work, place, row, why)
        if place < work.flow.end:
            self._wake(work.number, place)
        elif work.result() != elder:
            for number, at in work.callers:
                self._wake(number, at)

    def _begun(self, node):
        if node not in self.work_of:
            work = NodeWork(len(self.works), node, self.flows[node[0]])
            if node in self.kept:
                work.table = list(self.kept[node])
            self.work_of[node] = work
            self.works.append(work)
        return self.work_of[node]

    def _wake(self, number, place):
        work = self.works[number]
        if not work.stands[place]:
            work.stands[place] = True
            heappush(work.pending, place)
            if not work.awake:
                work.awake = True
                self.waiting.append(number)

    def _work_off(self, number):
        work = self.works[number]
        while work.pending:
            place = heappop(work.pending)
            work.stands[place] = False
            if place in work.flow.calls:
                self._pass_call(work, place)
            else:
                self._pass_on(work, place)
        work.awake = False

    def _pass_on(self, work, place):
        line = self.line_at(work, place)
        brought = work.flow.brought(place, work.table[place], 0)
        for arrow, (target, row) in enumerate(brought):
            self.bring(work, target, row, ("arrow", line, arrow))

    def _pass_call(self, work, place):
        row = work.table[place]
        line = self.line_at(work, place)
        node, words = self.asked(work.node, place, row)
        asked = self._begun(node)
        asked.callers[(work.number, place)] = True
        self.bring(asked, 0, words, ("called", line))
        result = asked.result()
        if result != 0:
            target, after = work.flow.brought(place, row, result)[0]
            self.bring(work, target, after, ("back", line, self.line_at(asked, asked.flow.end)))
