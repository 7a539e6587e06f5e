"""Edits of programs: rows, procedures and whole units put in the place of others."""

from truebooks.basics import is_sequence, is_whole
from truebooks.errors import BadEdit, BadProgram
from truebooks.packages import is_unit
from truebooks.programs import Program, block_places, rows_count

MOST_EDITS = 60
# How many entries an edit of each kind has.
LENGTHS = {"row": 4, "put": 4, "strike": 3, "unit": 2, "drop": 2, "first": 2}


def edit_program(program, edits):
    """Return the program behind edits, done one after another, or raise BadEdit."""
    if not is_sequence(edits) or len(edits) > MOST_EDITS:
        raise BadEdit(-1, "edits")
    procedures = list(program.procedures)
    for at, edit in enumerate(edits):
        what = _edit_fault(procedures, edit)
        if what is not None:
            raise BadEdit(at, what)
        try:
            procedures = list(Program(_edited(procedures, edit)).procedures)
        except BadProgram:
            raise BadEdit(at, "program") from None
    return Program(procedures)


def _edit_fault(procedures, edit):
    """Return the first word for what is wrong with an edit itself, or None."""
    if not _has_edit_form(edit):
        return "form"
    if edit[0] == "unit":
        return None
    names = [procedure[0] for procedure in procedures]
    if edit[1] not in names:
        return "name"
    if edit[0] in ("row", "put", "strike"):
        end = rows_count(procedures[names.index(edit[1])][2])
        last = end if edit[0] == "put" else end - 1
        if not 0 <= edit[2] <= last:
            return "place"
    return None


def _has_edit_form(edit):
    if not is_sequence(edit) or not edit or not isinstance(edit[0], str):
        return False
    if edit[0] not in LENGTHS or len(edit) != LENGTHS[edit[0]]:
        return False
    if edit[0] == "unit":
        return is_unit(edit[1]) and not _has_twins(edit[1])
    if not isinstance(edit[1], str):
        return False
    return edit[0] in ("drop", "first") or is_whole(edit[2])


def _has_twins(unit):
    names = {procedure[0]: True for procedure in unit}
    return len(names) < len(unit)


def _edited(procedures, edit):
    """Return the list of procedures behind an edit that has no fault itself."""
    if edit[0] == "unit":
        return _with_unit(procedures, edit[1])
    at = [procedure[0] for procedure in procedures].index(edit[1])
    others = procedures[:at] + procedures[at + 1:]
    if edit[0] == "drop":
        return others
    if edit[0] == "first":
        return [procedures[at], *others]
    name, variables, rows = procedures[at]
    edited = list(procedures)
    edited[at] = (name, variables, _edited_rows(rows, edit))
    return edited


def _with_unit(procedures, unit):
    fresh = {procedure[0]: procedure for procedure in unit}
    names = [procedure[0] for procedure in procedures]
    edited = [fresh.get(procedure[0], procedure) for procedure in procedures]
    edited.extend([procedure for procedure in unit if procedure[0] not in names])
    return edited


def _edited_rows(rows, edit):
    kind = edit[0]
    place = edit[2]
    if kind == "put" and place == rows_count(rows):
        return (*rows, edit[3])
    return _rows_with(rows, place, kind, edit[-1])


def _rows_with(rows, place, kind, fresh):
    """Return rows, the first of which is at place 0, with the one at a place edited."""
    edited = []
    for row in rows:
        size = rows_count((row,))
        if place == 0:
            if kind != "strike":
                edited.append(fresh)
            if kind == "put":
                edited.append(row)
        elif 0 < place < size:
            edited.append(_row_with(row, place - 1, kind, fresh))
        else:
            edited.append(row)
        place -= size
    return tuple(edited)


def _row_with(row, place, kind, fresh):
    """Return a row with the row at a place of its blocks edited, the first one being at 0."""
    parts = list(row)
    for at in block_places(row):
        parts[at] = _rows_with(row[at], place, kind, fresh)
        place -= rows_count(row[at])
    return tuple(parts)
