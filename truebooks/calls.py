"""Answers: the rows of words that a treatment of calls tells at all places of a program."""

from truebooks.basics import is_sequence, is_sequence_of, is_whole_from
from truebooks.errors import BadCalls
from truebooks.families import Family
from truebooks.orders import checked_picks
from truebooks.places import flat_rows
from truebooks.programs import procedure_of
from truebooks.rows import check_alphabet, entry_row, join_rows
from truebooks.tables import alarms_at
from truebooks.treatments import check_treatment, first_node, node_called


class Answer:
    """The nodes of a family, a table for each of them, and the needs that alarm at a node."""

    def __init__(self, treatment, nodes, tables, node_alarms):
        self.treatment = tuple(treatment) if isinstance(treatment, list) else treatment
        self.nodes = tuple(nodes)
        self.tables = tuple(tables)
        self.node_alarms = tuple(node_alarms)

    def __eq__(self, other):
        return (isinstance(other, Answer) and self.treatment == other.treatment
                and self.nodes == other.nodes and self.tables == other.tables
                and self.node_alarms == other.node_alarms)

    @property
    def alarm_places(self):
        """The ascending places (name, place) of all alarms, whatever the node."""
        places = {(node[0], place): True for node, place in self.node_alarms}
        return tuple(sorted(places))


def answer_program(book, program, treatment, picks=()):
    """Return the answer of a book to a program under a treatment of calls."""
    check_alphabet(book, program)
    treatment = check_treatment(treatment)
    return answer_with(book, program, treatment, checked_picks(picks), {})


def answer_with(book, program, treatment, picks, kept):
    """Return the answer; kept are tables by nodes that are known to be those of the answer."""
    family = Family(book, program, treatment, kept)
    family.settle(picks)
    tables = family.told_tables()
    nodes = tuple(tables)
    tables = tuple([tables[node] for node in nodes])
    return Answer(treatment, nodes, tables, alarms_of(book, program, nodes, tables))


def alarms_of(book, program, nodes, tables):
    """Return the ascending couples (node, place) of the needs that alarm in tables."""
    needs = {}
    for name, _, rows in program.procedures:
        needs[name] = [(place, row[1], row[2]) for place, row in enumerate(flat_rows(rows))
                       if row[0] == "need"]
    alarms = []
    for node, table in zip(nodes, tables):
        for place, variable, test in needs[node[0]]:
            row = table[place]
            if row is not None and alarms_at(book, row[variable], test):
                alarms.append((node, place))
    return tuple(sorted(alarms))


def table_of(answer, node):
    """Return the table of a node, or None if it is not in the answer."""
    return answer.tables[answer.nodes.index(node)] if node in answer.nodes else None


def row_told(answer, node, place):
    """Return the row at a place of a node's table, or None if the node is not in the answer."""
    table = table_of(answer, node)
    return None if table is None else table[place]


def result_of(answer, node):
    """Return the word that comes back from a node, NONE if it is not in the answer."""
    row = row_told(answer, node, -1)
    return 0 if row is None else row[0]


def joined_row(book, answer, name, place):
    """Return the join of the rows at a place over all nodes of a procedure, or None."""
    joined = None
    for node, table in zip(answer.nodes, answer.tables):
        if node[0] == name:
            joined = join_rows(book, joined, table[place])
    return joined


def _node_asked(book, program, treatment, node, place, call, row):
    """Return the node that a call asks from the row at its place."""
    _, callee, sources, _ = call
    words = entry_row(book, sources, row, procedure_of(program, callee)[1])
    return node_called(treatment, node, place, callee, words)


def asked_nodes(book, program, answer, node):
    """Return the ascending nodes that the calls in a node's table ask."""
    table = table_of(answer, node)
    if table is None:
        return ()
    asked = {}
    for place, row in enumerate(flat_rows(procedure_of(program, node[0])[2])):
        if row[0] == "call" and table[place] is not None:
            callee = _node_asked(book, program, answer.treatment, node, place, row, table[place])
            asked[callee] = True
    return tuple(sorted(asked))


def node_of_calls(book, program, answer, calls):
    """Return the node to which call places lead, or None; BadCalls if they are no way of calls."""
    rows = _call_rows(program, calls)
    node = first_node(book, answer.treatment, program)
    for (_, place), call in zip(calls, rows):
        row = row_told(answer, node, place)
        if row is None:
            return None
        node = _node_asked(book, program, answer.treatment, node, place, call, row)
    return node


def _call_rows(program, calls):
    """Return the list of the rows at call places that lead on from main, or raise BadCalls."""
    if not is_sequence(calls):
        raise BadCalls(-1)
    name = program.main
    rows = []
    for at, call in enumerate(calls):
        if not is_sequence_of(call, 2) or call[0] != name:
            raise BadCalls(at)
        flat = flat_rows(procedure_of(program, name)[2])
        if not is_whole_from(call[1], 0, len(flat) - 1) or flat[call[1]][0] != "call":
            raise BadCalls(at)
        rows.append(flat[call[1]])
        name = rows[-1][1]
    return rows
