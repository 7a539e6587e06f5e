"""Judges of lines of reasons and of answers, which need no climbing."""

from truebooks.basics import is_sequence, is_whole_from
from truebooks.calls import alarms_of
from truebooks.nodemaps import NodeMap
from truebooks.reasons import LEANS
from truebooks.rows import is_row, join_rows, row_at_most


class Judge(NodeMap):
    """What lines and tables are held against: a book, a program and a treatment."""

    def is_good(self, lines, number):
        """Tell whether a line is as it should be; those ahead of it are."""
        line = lines[number]
        if not isinstance(line, tuple) or len(line) != 4 or not self._is_there(line):
            return False
        why = line[3]
        if not isinstance(why, tuple) or not why or why[0] not in LEANS:
            return False
        leans = LEANS[why[0]]
        if len(why) != (3 if why[0] == "arrow" else 1 + leans):
            return False
        if not all([is_whole_from(elder, 0, number - 1) for elder in why[1:1 + leans]]):
            return False
        elders = [lines[elder] for elder in why[1:1 + leans]]
        return line[:3] in self._told(why, elders)

    def _is_there(self, line):
        """Tell whether the program and the book have the node's procedure, the place and the row."""
        node, place, row, _ = line
        if not isinstance(node, tuple) or len(node) != 2 or node[0] not in self.flows:
            return False
        flow = self.flows[node[0]]
        if not is_whole_from(place, 0, flow.end):
            return False
        return isinstance(row, tuple) and is_row(self.book, flow.variables, row)

    def _told(self, why, elders):
        """Return a list with what (node, place, row) a why tells from elder lines, if anything."""
        if why[0] == "start":
            return [(self.first, 0, self.start())]
        node, place, row, _ = elders[0]
        flow = self.flows[node[0]]
        if why[0] == "join":
            if elders[1][:2] != (node, place):
                return []
            return [(node, place, join_rows(self.book, row, elders[1][2]))]
        if why[0] == "arrow":
            if place in flow.calls or not is_whole_from(why[2], 0, len(flow.moves[place]) - 1):
                return []
            target, after = flow.brought(place, row, 0)[why[2]]
            return [(node, target, after)]
        if place not in flow.calls:
            return []
        asked, words = self.asked(node, place, row)
        if why[0] == "called":
            return [(asked, 0, words)]
        if elders[1][:2] != (asked, self.flows[asked[0]].end):
            return []
        target, after = flow.brought(place, row, elders[1][2][0])[0]
        return [(node, target, after)]

    def lacking(self, tables):
        """Return the couple (node, place) that tables by nodes are first found to miss, or None."""
        if not self._has(tables, self.first, 0, self.start()):
            return (self.first, 0)
        for node, table in tables.items():
            for place, row in enumerate(table):
                if row is not None:
                    for other, target, after in self._brought(tables, node, place, row):
                        if not self._has(tables, other, target, after):
                            return (other, target)
        return None

    def _has(self, tables, node, place, row):
        return node in tables and row_at_most(self.book, row, tables[node][place])

    def _brought(self, tables, node, place, row):
        """Return the list of (node, place, row) that a row at a place of tables brings."""
        flow = self.flows[node[0]]
        brought = []
        result = 0
        if place in flow.calls:
            asked, words = self.asked(node, place, row)
            brought.append((asked, 0, words))
            end_row = tables[asked][-1] if asked in tables else None
            result = 0 if end_row is None else end_row[0]
        brought.extend([(node, target, after)
                        for target, after in flow.brought(place, row, result)])
        return brought


def judge_reasons(book, program, treatment, lines):
    """Return None if lines are good, the number of the first that is not, or -1."""
    if not is_sequence(lines):
        return -1
    judge = Judge(book, program, treatment)
    for number in range(len(lines)):
        if not judge.is_good(lines, number):
            return number
    return None


def judge_table(book, program, answer):
    """Return None if the tables of an answer are closed, else what they miss first."""
    return Judge(book, program, answer.treatment).lacking(_tables_by_nodes(answer))


def _tables_by_nodes(answer):
    return {node: table for node, table in zip(answer.nodes, answer.tables)}


def judge_answer(book, program, answer, lines):
    """Return None if lines show an answer to be right, else the first word for what is not."""
    judge = Judge(book, program, answer.treatment)
    tables = _tables_by_nodes(answer)
    if judge.lacking(tables) is not None:
        return "table"
    if judge.reached(tables) != answer.nodes:
        return "nodes"
    if judge_reasons(book, program, answer.treatment, lines) is not None:
        return "reasons"
    told = {line[:3]: True for line in lines}
    for node, table in tables.items():
        for place, row in enumerate(table):
            if row is not None and (node, place, row) not in told:
                return "told"
    if answer.node_alarms != alarms_of(book, program, answer.nodes, answer.tables):
        return "alarms"
    return None
