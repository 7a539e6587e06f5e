"""Plain programs, and exactly the numbers that runs have at their places."""

from truebooks.basics import is_whole_from
from truebooks.errors import NoNeed, Unfit
from truebooks.letters import lot_of_test
from truebooks.lots import less_lot
from truebooks.numbermachine import Machine
from truebooks.places import arrows_of, call_places, flat_rows
from truebooks.programs import procedure_of
from truebooks.reach import reach

MOST_ROWS = 60


def check_plain(program):
    """Raise Unfit unless a program is plain."""
    if len(program.procedures) != 1:
        raise Unfit("procedures")
    if program.procedures[0][1] != 1:
        raise Unfit("variables")
    if call_places(program, program.main):
        raise Unfit("calls")
    if len(plain_rows(program)) > MOST_ROWS:
        raise Unfit("rows")


def plain_rows(program):
    """Return the list of the rows of the first procedure by places."""
    return flat_rows(procedure_of(program, program.main)[2])


def plain_machine(program):
    """Return the machine whose stations are the places of a plain program, END included."""
    arrows = []
    for place, leaving in enumerate(arrows_of(program, program.main)):
        arrows.extend([(place, move_of(act), target) for act, target in leaving])
    return Machine(len(plain_rows(program)) + 1, [(0, 0)], arrows)


def move_of(act):
    """Return the move of an act of a program with one variable."""
    if act[0] in ("stay", "copy"):
        return ("stay",)
    return (act[0], act[2])


def place_lots(program):
    """Return for each place of a plain program, END included, the lot of the numbers there."""
    check_plain(program)
    return reach(plain_machine(program))


def failing_lot(program, place):
    """Return the lot of the numbers with which runs fail at a need, or raise Unfit or NoNeed."""
    check_plain(program)
    rows = plain_rows(program)
    if not is_whole_from(place, 0, len(rows) - 1) or rows[place][0] != "need":
        raise NoNeed(place)
    return less_lot(place_lots(program)[place], lot_of_test(rows[place][2]))
