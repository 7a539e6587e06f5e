"""Paths: ways through programs along which nothing is joined."""

from truebooks.flows import flows_of
from truebooks.places import place_count, row_at_place
from truebooks.rows import check_alphabet, entry_row, join_rows, start_row
from truebooks.tables import alarms_at
from truebooks.told import (
    call_of_told, program_with_told, row_of_step, tables_of_steps, told_words,
)
from truebooks.twobooks import Parts


class PathWork:
    """The rows that paths have, by (name, entry row) and by places, growing until none is new."""

    def __init__(self, book, program):
        self.book = book
        self.flows = flows_of(book, program)
        # By (name, entry row): for each place a dict of rows.
        self.met = {}
        # By (name, entry row): the words that come back, and the rows at calls that wait for them.
        self.backs = {}
        self.callers = {}
        self.waiting = []
        self.begin(program.main, start_row(book, self.flows[program.main].variables))

    def begin(self, name, row):
        """Let a path begin a procedure with an entry row; return both as a couple."""
        begun = (name, row)
        if begun not in self.met:
            self.met[begun] = [{} for _ in self.flows[name].moves]
            self.backs[begun] = {}
            self.callers[begun] = []
            self._put(begun, 0, row)
        return begun

    def _put(self, begun, place, row):
        if row is not None and row not in self.met[begun][place]:
            self.met[begun][place][row] = True
            self.waiting.append((begun, place, row))

    def run(self):
        """Lead all paths on until no row is new."""
        while self.waiting:
            begun, place, row = self.waiting.pop()
            flow = self.flows[begun[0]]
            if place == flow.end:
                self._come_back(begun, row[0])
            elif place in flow.calls:
                self._call(begun, place, row)
            else:
                for target, after in flow.brought(place, row, 0):
                    self._put(begun, target, after)

    def _call(self, begun, place, row):
        callee, sources = self.flows[begun[0]].calls[place]
        words = entry_row(self.book, sources, row, self.flows[callee].variables)
        inner = self.begin(callee, words)
        self.callers[inner].append((begun, place, row))
        for word in list(self.backs[inner]):
            self._go_behind(begun, place, row, word)

    def _come_back(self, begun, word):
        if word not in self.backs[begun]:
            self.backs[begun][word] = True
            for caller, place, row in list(self.callers[begun]):
                self._go_behind(caller, place, row, word)

    def _go_behind(self, begun, place, row, word):
        target, after = self.flows[begun[0]].brought(place, row, word)[0]
        self._put(begun, target, after)


def path_lots(book, program):
    """Return the ascending couples ((name, entry row), lots of rows by places) of all paths."""
    check_alphabet(book, program)
    work = PathWork(book, program)
    work.run()
    return tuple([(begun, tuple([tuple(sorted(rows)) for rows in work.met[begun]]))
                  for begun in sorted(work.met)])


def paths_row(book, program, name, place):
    """Return the join of the rows of all paths at a place of a procedure, or None."""
    lots = path_lots(book, program)
    row_at_place(program, name, place)
    joined = None
    for begun, rows_by_places in lots:
        if begun[0] == name:
            for row in rows_by_places[place]:
                joined = join_rows(book, joined, row)
    return joined


def joins_fault(book):
    """Return None if each step keeps the joins of told words, else (step, word, word)."""
    words = told_words(book)
    couples = [(word, other) for word in words for other in words if word < other]
    for step, row in tables_of_steps(book):
        for word, other in couples:
            if row[book.joins[word][other]] != book.joins[row[word]][row[other]]:
                return (step, word, other)
    return None


def none_fault(book):
    """Return None if each step leads all told words to NONE or no one, else (step, word, word)."""
    words = told_words(book)
    for step, row in tables_of_steps(book):
        ended = [word for word in words if row[word] == 0]
        others = [word for word in words if row[word] != 0]
        if ended and others:
            return (step, ended[0], others[0])
    return None


def paths_alike(book, *, many=False):
    """Return None if paths tell all that tables tell, else Parts; many lets procedures have more
    than one variable."""
    fault = joins_fault(book)
    if fault is not None:
        return _unlike_join(book, fault)
    fault = none_fault(book) if many else None
    return None if fault is None else _unlike_none(book, fault)


def _unlike_join(book, fault):
    """Return Parts behind a step that does not keep the join of two words."""
    step, word, other = fault
    both = ("either", (call_of_told(word),), (call_of_told(other),))
    return _parts_at_end(book, 1, (both, row_of_step(step, 0)))


def _unlike_none(book, fault):
    """Return Parts behind a step that ends the paths on which the other variable has more."""
    step, word, other = fault
    # Paths that go on have the lesser word in variable 1, tables the join of both words.
    both = ("either", (call_of_told(word), call_of_told(other, 1)),
            (call_of_told(other), call_of_told(word, 1)))
    return _parts_at_end(book, 2, (both, row_of_step(step, 0)))


def _parts_at_end(book, variables, rows):
    program = program_with_told(book, variables, rows)
    return Parts(program, program.main, place_count(program, program.main))


def is_silent(book):
    """Tell whether no told word alarms at any test."""
    words = told_words(book)
    return not any([alarms_at(book, word, test) for test in book.tests for word in words])
