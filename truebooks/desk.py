"""The desk: a book, a program and a treatment that deeds change, and reports of what they tell."""

from truebooks.basics import is_sequence
from truebooks.calls import answer_program
from truebooks.edits import edit_program
from truebooks.errors import BadDeed, BadStory, BookError, NothingBack
from truebooks.fits import first_leaving
from truebooks.lies import Lies, verdict
from truebooks.orders import checked_picks
from truebooks.programtext import read_program
from truebooks.rows import check_alphabet
from truebooks.runs import run_program
from truebooks.tables import raised_book
from truebooks.treatments import check_treatment

# How many entries a deed of each kind has.
LENGTHS = {"program": 2, "edit": 2, "treat": 2, "order": 2, "raise": 2, "back": 1}
MOST_DEEDS = 60


class Report:
    """What a book tells of a program: all rows, the alarms, and whether the book lies."""

    def __init__(self, book, program, treatment, rows, alarms, lies):
        self.book = book
        self.program = program
        self.treatment = tuple(treatment) if isinstance(treatment, list) else treatment
        self.rows = tuple(rows)
        self.alarms = tuple(alarms)
        self.lies = lies

    def __eq__(self, other):
        return (isinstance(other, Report) and self.book == other.book
                and self.program == other.program and self.treatment == other.treatment
                and self.rows == other.rows and self.alarms == other.alarms
                and self.lies == other.lies)


class Desk:
    """A book, a program, a treatment and picks; log has all deeds done, in_force those that count."""

    def __init__(self, book, program, treatment):
        check_alphabet(book, program)
        self.book = book
        self.program = program
        self.treatment = check_treatment(treatment)
        self.picks = ()
        self.log = ()
        self.in_force = ()
        # For each deed in force: book, program, treatment and picks ahead of it.
        self._elder = []

    def do_deed(self, deed):
        """Do a deed, or raise BadDeed or what its kind raises."""
        if not _has_deed_form(deed):
            raise BadDeed()
        if deed[0] == "back":
            self._take_back()
            self.log = (*self.log, ("back",))
            return
        state = (self.book, self.program, self.treatment, self.picks)
        done = self._do(deed[0], deed[1])
        self._elder.append(state)
        self.log = (*self.log, done)
        self.in_force = (*self.in_force, done)

    def _take_back(self):
        if not self.in_force:
            raise NothingBack()
        self.book, self.program, self.treatment, self.picks = self._elder.pop()
        self.in_force = self.in_force[:-1]

    def _do(self, kind, what):
        """Change the state by a deed that is no back; return the deed with tuples at every level."""
        if kind == "program":
            self.program = self._fitting(read_program(what))
        elif kind == "edit":
            self.program = self._fitting(edit_program(self.program, what))
        elif kind == "treat":
            self.treatment = check_treatment(what)
        elif kind == "order":
            self.picks = checked_picks(what)
        else:
            self.book = raised_book(self.book, what)
        return (kind, all_tuples(what))

    def _fitting(self, program):
        check_alphabet(self.book, program)
        return program

    def work_out(self):
        """Return the answer of the present book, program and treatment."""
        return answer_program(self.book, self.program, self.treatment, self.picks)

    def told_verdict(self):
        """Return the verdict on the present book."""
        return verdict(self.book)

    def run_here(self, choices=(), fuel=200):
        """Return the run of the present program by choices."""
        return run_program(self.program, choices, fuel)

    def leaving_here(self, choices=(), fuel=200):
        """Return where the run by choices first leaves what is told, or None."""
        one = self.run_here(choices, fuel)
        return first_leaving(self.book, self.program, self.work_out(), one)

    def trial(self, deeds):
        """Return the report of what the desk would tell behind deeds, or raise BadStory."""
        desk = Desk(self.book, self.program, self.treatment)
        desk.picks = self.picks
        desk.log = self.log
        desk.in_force = self.in_force
        desk._elder = list(self._elder)
        do_deeds(desk, deeds)
        return report_of(desk)


def _has_deed_form(deed):
    if not is_sequence(deed) or not deed or not isinstance(deed[0], str):
        return False
    return deed[0] in LENGTHS and len(deed) == LENGTHS[deed[0]]


def all_tuples(thing):
    """Return a thing with tuples in the place of all lists in it."""
    if is_sequence(thing):
        return tuple([all_tuples(part) for part in thing])
    return thing


def do_deeds(desk, deeds):
    """Do deeds on a desk, or raise BadStory at the first that cannot be done."""
    if not is_sequence(deeds) or len(deeds) > MOST_DEEDS:
        raise BadStory(-1)
    for at, deed in enumerate(deeds):
        try:
            desk.do_deed(deed)
        except BookError:
            raise BadStory(at) from None


def report_of(desk):
    """Return the report of what a desk tells now, or raise what verdict raises."""
    answer = desk.work_out()
    rows = [(node, place, row) for node, table in zip(answer.nodes, answer.tables)
            for place, row in enumerate(table)]
    lies = isinstance(desk.told_verdict(), Lies)
    return Report(desk.book, desk.program, desk.treatment, rows, answer.node_alarms, lies)
