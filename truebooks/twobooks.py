"""Two books over one alphabet: whether they alarm alike, or one of them more rarely."""

from truebooks.couples import program_of_couple, whys_of_couples
from truebooks.tables import alarms_at


class Parts:
    """A program and one of its places at which two analyses part."""

    def __init__(self, program, name, place):
        self.program = program
        self.name = name
        self.place = place

    def __eq__(self, other):
        return (isinstance(other, Parts) and self.program == other.program
                and self.name == other.name and self.place == other.place)


def alike(one, other):
    """Return None if two books have the same alarms on all programs, else Parts."""
    return _first_parts(one, other, ((True, False), (False, True)))


def finer(one, other):
    """Return None if each alarm of the one book is one of the other's, else Parts."""
    return _first_parts(one, other, ((True, False),))


def _first_parts(one, other, unlike):
    """Return Parts for the first couple and test at which the books' alarms are unlike so."""
    whys = whys_of_couples(one, other)
    for couple in sorted(whys):
        for test in one.tests:
            if (alarms_at(one, couple[0], test), alarms_at(other, couple[1], test)) in unlike:
                # The need stands behind the one call that brings the couple.
                return Parts(program_of_couple(whys, couple, (("need", 0, test),)), "main", 1)
    return None
