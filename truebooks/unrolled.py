"""Loops and calls written out: programs without them that tell the rows of an answer."""

from truebooks.calls import answer_program
from truebooks.depths import Depths, Scope
from truebooks.errors import TooLarge
from truebooks.places import flat_rows, row_at_place
from truebooks.programs import MOST_VARIABLES, Program, block_places, procedure_of
from truebooks.rows import check_alphabet
from truebooks.runs import MOST_FUEL, run_program
from truebooks.told import STOP
from truebooks.treatments import first_node
from truebooks.writtenout import FRESH, Writer, marks_of, rows_of


class Unrolled:
    """A program of one procedure without loops and calls, and a mark for each place but END."""

    def __init__(self, program, marks):
        self.program = program
        self.marks = tuple(marks)

    def __eq__(self, other):
        return (isinstance(other, Unrolled) and self.program == other.program
                and self.marks == other.marks)


def unroll_place(book, program, node, place):
    """Return a text whose END tells what "entry" tells at a place of a node, or raise TooLarge."""
    check_alphabet(book, program)
    row_at_place(program, node[0], place)
    answer = answer_program(book, program, "entry")
    tables = {told: table for told, table in zip(answer.nodes, answer.tables)}
    if node not in answer.nodes or tables[node][place] is None:
        return Unrolled(Program([("main", procedure_of(program, node[0])[1], STOP)]), (None,))
    depths = Depths(book, program)
    way = _way_to(depths, tables, first_node(book, "entry", program), node)
    way.append((node, place))
    writer = Writer(depths)
    pieces = _pieces_along(program, writer, way, _least_depth(depths, tables, way))
    rows = rows_of(pieces)
    variables = writer.variables
    if writer.needs_fresh:
        rows = _with_fresh(rows, variables)
        variables += 1
    return Unrolled(Program([("main", variables, rows)]), marks_of(pieces))


def _way_to(depths, tables, first, node):
    """Return the list of the call places (node, place) of a shortest way from the first node."""
    origins = {first: None}
    found = [first]
    number = 0
    while node not in origins:
        asking = found[number]
        number += 1
        for place in depths.flows[asking[0]].calls:
            if tables[asking][place] is not None:
                asked = depths.asked(asking[0], place, tables[asking][place])
                if asked not in origins:
                    origins[asked] = (asking, place)
                    found.append(asked)
    way = []
    step = origins[node]
    while step is not None:
        way.append(step)
        step = origins[step[0]]
    return way[::-1]


def _least_depth(depths, tables, way):
    """Return the least depth of calls with which the rows along a way come out as told."""
    for depth in range(MOST_VARIABLES):
        told = [depths.table_at(node[0], node[1], depth + 1)[place] for node, place in way]
        if told == [tables[node][place] for node, place in way]:
            return depth
    # Calls that lean on one another so deep are written out one inside the other, and each
    # has a variable at least.
    raise TooLarge(MOST_VARIABLES)


def _pieces_along(program, writer, way, depth):
    """Return the pieces of the text for a way of call places and the place at its end."""
    pieces = []
    scope = None
    sources = ()
    for node, place in way:
        flow = writer.flows[node[0]]
        if scope is None:
            scope = Scope(node[0], depth, 0)
            writer.take_variables(flow.variables)
        else:
            inner = Scope(node[0], depth, scope.base + writer.flows[scope.name].variables)
            pieces.extend(writer.hand_over(scope, sources, inner))
            scope = inner
        more, _ = writer.ahead(scope, flow.rows, 0, place, node[1])
        pieces.extend(more)
        if place in flow.calls:
            sources = flow.calls[place][1]
    if scope.base > 0:
        for variable in range(writer.flows[scope.name].variables):
            pieces.append(writer.single(("copy", variable, scope.base + variable)))
    return pieces


def _with_fresh(rows, fresh):
    """Return rows in which copies of FRESH are copies of a variable that is never changed."""
    filled = []
    for row in rows:
        parts = list(row)
        if row[0] == "copy" and row[2] == FRESH:
            parts[2] = fresh
        for at in block_places(row):
            parts[at] = _with_fresh(row[at], fresh)
        filled.append(tuple(parts))
    return tuple(filled)


def carried_choices(unrolled, choices):
    """Return the choices of the program's run that goes as the text's run by choices."""
    run = run_program(unrolled.program, choices, MOST_FUEL)
    rows = flat_rows(procedure_of(unrolled.program, unrolled.program.main)[2])
    carried = []
    read = 0
    for _, _, place, _ in run.steps:
        if place < len(rows):
            mark = unrolled.marks[place]
            choice = mark
            if rows[place][0] == "either":
                choice = choices[read] if read < len(choices) else 0
                read += 1
            if mark is not None:
                carried.append(choice)
    return tuple(carried)
