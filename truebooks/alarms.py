"""The causes of alarms of plain programs: runs that fail, or words that lose something."""

from truebooks.basics import is_whole
from truebooks.calls import answer_program, row_told
from truebooks.covering import lot_behind
from truebooks.errors import BadChoices, NoAlarm, TooLong
from truebooks.lots import either_lot, empty_lot, just_lot, within
from truebooks.placelots import check_plain, move_of, place_lots, plain_machine, plain_rows
from truebooks.places import arrows_of
from truebooks.reach import shortest_run
from truebooks.reasons import find_line, lines_under, reasons_of
from truebooks.rows import check_alphabet
from truebooks.runs import MOST_FUEL, run_program


class Real:
    """The cause of an alarm at which a run by choices fails with a number."""

    def __init__(self, choices, number):
        self.choices = tuple(choices)
        self.number = number

    def __eq__(self, other):
        return (isinstance(other, Real) and self.choices == other.choices
                and self.number == other.number)


class Loss:
    """The cause of an alarm at which no run fails: a line of reasons, and a number that it loses."""

    def __init__(self, line, number):
        self.line = line
        self.number = number

    def __eq__(self, other):
        return (isinstance(other, Loss) and self.line == other.line
                and self.number == other.number)


class Inquiry:
    """A book and a plain program, with what the causes of its alarms are found by."""

    def __init__(self, book, program):
        check_alphabet(book, program)
        check_plain(program)
        self.book = book
        self.program = program
        self.rows = plain_rows(program)
        self.arrows = arrows_of(program, program.main)
        self.answer = answer_program(book, program, "entry")
        self.lines = reasons_of(book, program, "entry")

    def alarmed(self):
        """Return the ascending list of the places of all alarms."""
        return [place for _, place in self.answer.node_alarms]

    def cause_at(self, lots, place):
        """Return the cause of the alarm at a place; lots has the numbers at all places."""
        test = self.rows[place][2]
        number = within(lot_behind(("not", test), lots[place]), empty_lot())
        if number is None:
            return self._loss_at(place, test)
        return Real(self._choices_to(place, number), number)

    def _choices_to(self, place, number):
        """Return the choices of a run with the fewest steps to a number at a place."""
        machine = plain_machine(self.program)

        def is_it(station, present):
            return station == place and present == number

        # A run has one step more than it takes arrows.
        run = shortest_run(machine, is_it, MOST_FUEL - 1)
        if run is None:
            raise TooLong(MOST_FUEL)
        choices = []
        for index in run[1]:
            origin, _, target = machine.arrows[index]
            if self.rows[origin][0] == "either":
                choices.append(0 if self.arrows[origin][0][1] == target else 1)
        return choices

    def _loss_at(self, place, test):
        node = self.answer.nodes[0]
        row = row_told(self.answer, node, place)
        if lot_behind(("not", test), self.book.meanings[row[0]]).bare:
            return Loss(None, None)
        under = lines_under(self.lines, find_line(self.lines, node, place, row))
        # One of them loses something, for no run has the numbers that alarm.
        at = 0
        while self._lost_at(under[at]) is None:
            at += 1
        return Loss(under[at], self._lost_at(under[at]))

    def _lost_at(self, line):
        """Return the least number by size that a line loses, or None."""
        return within(self._meaning(line), self._brought(self.lines[line][3]))

    def _meaning(self, line):
        return self.book.meanings[self.lines[line][2][0]]

    def _brought(self, why):
        """Return the lot that the lines of a why bring to their line."""
        if why[0] == "start":
            return just_lot([0])
        lot = self._meaning(why[1])
        if why[0] == "join":
            return either_lot(lot, self._meaning(why[2]))
        act, _ = self.arrows[self.lines[why[1]][1]][why[2]]
        return lot_behind(move_of(act), lot)


def alarm_cause(book, program, place):
    """Return the cause of the alarm at a place, or raise Unfit, NoAlarm or TooLong."""
    inquiry = Inquiry(book, program)
    if not is_whole(place) or place not in inquiry.alarmed():
        raise NoAlarm(place)
    return inquiry.cause_at(place_lots(program), place)


def alarm_causes(book, program):
    """Return the couples (place, cause) of all alarms, by places ascending."""
    inquiry = Inquiry(book, program)
    lots = place_lots(program)
    return tuple([(place, inquiry.cause_at(lots, place)) for place in inquiry.alarmed()])


def cause_fault(book, program, place, cause):
    """Return None if a cause is right for the alarm at a place, else the first fault."""
    right = alarm_cause(book, program, place)
    if isinstance(cause, Real):
        return _real_fault(program, place, cause, right)
    if isinstance(right, Real):
        return "real"
    if cause.line != right.line:
        return "line"
    return None if cause.number == right.number else "number"


def _real_fault(program, place, cause, right):
    try:
        run = run_program(program, cause.choices, MOST_FUEL)
    except BadChoices:
        return "choices"
    if run.end != "failed" or run.steps[-1][2] != place:
        return "run"
    # A run fails there, so the right cause is a Real, too.
    if cause.number != run.steps[-1][3][0] or cause.number != right.number:
        return "number"
    return None
