"""Reasons: lines that show, one from others, why an answer tells its rows."""

from truebooks.families import Family
from truebooks.rows import check_alphabet
from truebooks.treatments import check_treatment

# How many numbers of lines stand behind the word of a reason.
LEANS = {"start": 0, "arrow": 1, "join": 2, "called": 1, "back": 2}


class Reasoner(Family):
    """A family that writes down a line for each row that is brought or joined."""

    def __init__(self, book, program, treatment):
        Family.__init__(self, book, program, treatment, {})
        self.lines = []
        # The numbers of the lines for the present rows, by (number of the work, place).
        self.present = {}

    def line_at(self, work, place):
        """Return the number of the line of reasons for the row at a place."""
        return self.present[(work.number, place)]

    def write_lines(self, work, place, row, why):
        """Write a line for a row that was brought, and one for its join with the elder row."""
        # All elder lines for the place are at most its elder row, so these rows are new ones.
        self.lines.append((work.node, place, row, why))
        joined = work.table[place]
        if joined != row:
            both = ("join", self.line_at(work, place), len(self.lines) - 1)
            self.lines.append((work.node, place, joined, both))
        self.present[(work.number, place)] = len(self.lines) - 1


def reasons_of(book, program, treatment):
    """Return good lines that tell every row of the answer."""
    check_alphabet(book, program)
    reasoner = Reasoner(book, program, check_treatment(treatment))
    reasoner.settle(())
    return tuple(reasoner.lines)


def find_line(lines, node, place, row):
    """Return the number of the first line with that node, place and row, or None."""
    for number, line in enumerate(lines):
        if line[:3] == (node, place, row):
            return number
    return None


def lines_under(lines, number):
    """Return the ascending numbers of a line and of all lines that it leans on."""
    under = {number: True}
    waiting = [number]
    while waiting:
        why = lines[waiting.pop()][3]
        for elder in why[1:1 + LEANS[why[0]]]:
            if elder not in under:
                under[elder] = True
                waiting.append(elder)
    return tuple(sorted(under))
