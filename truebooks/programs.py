"""Programs: procedures of rows, checked when they are made."""

from truebooks.basics import is_sequence, is_sequence_of, is_whole_from
from truebooks.errors import BadProgram, NoProcedure
from truebooks.letters import fits_letter, fits_test

MOST_PROCEDURES = 300
MOST_VARIABLES = 40
MOST_ROWS = 3000
DEEPEST = 20
MOST_CHARACTERS = 8
SMALL_LETTERS = "abcdefghijklmnopqrstuvwxyz"
FIGURES = "0123456789"
# For each word of a row: how many entries the row has, where its variable stands, and
# where its blocks begin.
LENGTHS = {"deed": 3, "copy": 3, "need": 3, "if": 5, "either": 3, "while": 4, "call": 4, "stop": 1}
VARIABLE_AT = {"deed": 1, "copy": 1, "need": 1, "if": 1, "while": 1, "call": 3}
BLOCKS_FROM = {"if": 3, "either": 1, "while": 3}


class Program:
    """Procedures (name, variables, rows); the first one is the one that is run."""

    def __init__(self, procedures):
        if not is_sequence(procedures) or not 1 <= len(procedures) <= MOST_PROCEDURES:
            raise BadProgram("", -1, "many")
        variables_of = _checked_heads(procedures)
        self.procedures = tuple([_checked_procedure(procedure, variables_of)
                                 for procedure in procedures])
        if sum([rows_count(procedure[2]) for procedure in self.procedures]) > MOST_ROWS:
            raise BadProgram("", -1, "size")

    def __eq__(self, other):
        return isinstance(other, Program) and self.procedures == other.procedures

    @property
    def main(self):
        """The name of the procedure that is run."""
        return self.procedures[0][0]


def is_name(thing):
    """Tell whether a thing is the name of a procedure."""
    if not isinstance(thing, str) or not 1 <= len(thing) <= MOST_CHARACTERS:
        return False
    if thing[0] not in SMALL_LETTERS:
        return False
    return all([character in SMALL_LETTERS or character in FIGURES for character in thing])


def _checked_heads(procedures):
    """Check all but the rows of procedures; return the number of variables by names."""
    variables_of = {}
    for procedure in procedures:
        if not is_sequence_of(procedure, 3):
            raise BadProgram("", -1, "procedure")
        name, variables, _ = procedure
        if not is_name(name):
            raise BadProgram("", -1, "name")
        if name in variables_of:
            raise BadProgram(name, -1, "twice")
        if not is_whole_from(variables, 1, MOST_VARIABLES):
            raise BadProgram(name, -1, "variables")
        variables_of[name] = variables
    return variables_of


def _checked_procedure(procedure, variables_of):
    name, variables, rows = procedure
    if not is_sequence(rows):
        raise BadProgram(name, -1, "rows")
    rows, _ = _checked_rows(name, variables_of, rows, 0, 0)
    return (name, variables, rows)


def _checked_rows(name, variables_of, rows, place, depth):
    """Check rows that begin at a place inside so many blocks.

    Return them with tuples in the place of all sequences, and the place behind them.
    """
    checked = []
    for row in rows:
        what = _row_fault(row, variables_of[name], variables_of, depth)
        if what is not None:
            raise BadProgram(name, place, what)
        parts = [tuple(part) if is_sequence(part) else part for part in row]
        place += 1
        for at in block_places(row):
            parts[at], place = _checked_rows(name, variables_of, row[at], place, depth + 1)
        checked.append(tuple(parts))
    return tuple(checked), place


def _row_fault(row, variables, variables_of, depth):
    """Return the first word for a fault of a row itself, its blocks' rows aside, or None."""
    if not _has_row_form(row):
        return "row"
    word = row[0]
    if word in VARIABLE_AT and not is_whole_from(row[VARIABLE_AT[word]], 0, variables - 1):
        return "variable"
    if word == "copy" and not is_whole_from(row[2], 0, variables - 1):
        return "source"
    if word == "deed" and not fits_letter(row[2]):
        return "letter"
    if word in ("need", "if", "while") and not fits_test(row[2]):
        return "test"
    if word == "call":
        return _call_fault(row, variables, variables_of)
    blocks = blocks_of(row)
    if not all([is_sequence(block) for block in blocks]):
        return "block"
    if blocks and depth >= DEEPEST:
        return "deep"
    return None


def _has_row_form(row):
    if not is_sequence(row) or not row or not isinstance(row[0], str):
        return False
    return row[0] in LENGTHS and len(row) == LENGTHS[row[0]]


def _call_fault(row, variables, variables_of):
    _, callee, args, _ = row
    if not isinstance(callee, str) or callee not in variables_of:
        return "callee"
    if not is_sequence(args) or len(args) > variables_of[callee]:
        return "args"
    if not all([is_whole_from(source, 0, variables - 1) for source in args]):
        return "args"
    return None


def block_places(row):
    """Return the list of the places of the blocks in a row."""
    if row[0] not in BLOCKS_FROM:
        return []
    return list(range(BLOCKS_FROM[row[0]], len(row)))


def blocks_of(row):
    """Return the list of the blocks of a row."""
    return [row[at] for at in block_places(row)]


def rows_count(rows):
    """Return how many rows a sequence of rows has, those inside blocks included."""
    many = len(rows)
    for row in rows:
        for block in blocks_of(row):
            many += rows_count(block)
    return many


def procedure_of(program, name):
    """Return the procedure of that name, or raise NoProcedure."""
    for procedure in program.procedures:
        if procedure[0] == name:
            return procedure
    raise NoProcedure(name)
