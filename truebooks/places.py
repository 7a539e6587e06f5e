"""The places of a program's rows and the arrows that lead from place to place."""

from truebooks.basics import is_whole_from
from truebooks.errors import BadPlace
from truebooks.programs import blocks_of, procedure_of, rows_count


def flat_rows(rows):
    """Return the list of rows in the order of the text, those inside blocks included."""
    flat = []
    for row in rows:
        flat.append(row)
        for block in blocks_of(row):
            flat.extend(flat_rows(block))
    return flat


def place_count(program, name):
    """Return the number of END of a procedure, or raise NoProcedure."""
    return rows_count(procedure_of(program, name)[2])


def row_at_place(program, name, place):
    """Return the row at a place, None at END, or raise NoProcedure or BadPlace."""
    flat = flat_rows(procedure_of(program, name)[2])
    if not is_whole_from(place, 0, len(flat)):
        raise BadPlace()
    return flat[place] if place < len(flat) else None


def call_places(program, name):
    """Return the ascending places of the calls of a procedure, or raise NoProcedure."""
    flat = flat_rows(procedure_of(program, name)[2])
    return tuple([place for place, row in enumerate(flat) if row[0] == "call"])


def arrows_of(program, name):
    """Return for each place the arrows (act, target) that leave it, or raise NoProcedure."""
    rows = procedure_of(program, name)[2]
    arrows = []
    _append_arrows(rows, rows_count(rows), arrows)
    arrows.append(())
    return tuple(arrows)


def _append_arrows(rows, behind, arrows):
    """Append the arrows of rows whose first place comes next; behind is what follows them."""
    for at, row in enumerate(rows):
        is_last = at == len(rows) - 1
        following = behind if is_last else len(arrows) + rows_count((row,))
        _append_row(row, following, arrows)


def _append_row(row, following, arrows):
    place = len(arrows)
    blocks = blocks_of(row)
    leads_on = place if row[0] == "while" else following
    heads = []
    first = place + 1
    for block in blocks:
        heads.append(first if block else leads_on)
        first += rows_count(block)
    arrows.append(_arrows_at(row, heads, following))
    for block in blocks:
        _append_arrows(block, leads_on, arrows)


def _arrows_at(row, heads, following):
    """Return the arrows of a row whose blocks begin at heads."""
    word = row[0]
    if word == "stop":
        return ()
    if word == "need":
        return ((("so", row[1], row[2]), following),)
    if word == "if":
        return ((("so", row[1], row[2]), heads[0]), (("not", row[1], row[2]), heads[1]))
    if word == "either":
        return ((("stay",), heads[0]), (("stay",), heads[1]))
    if word == "while":
        return ((("so", row[1], row[2]), heads[0]), (("not", row[1], row[2]), following))
    # A deed, a copy and a call are acts themselves.
    return ((row, following),)


def alphabet_of(program):
    """Return (letters, tests) in the order in which they first occur in a program."""
    letters = {}
    tests = {}
    for procedure in program.procedures:
        for row in flat_rows(procedure[2]):
            if row[0] == "deed":
                letters[row[2]] = True
            elif row[0] in ("need", "if", "while"):
                tests[row[2]] = True
    return (tuple(letters), tuple(tests))
