"""Couples shown by programs, and the verdict whether a book ever lies."""

from truebooks.beneath import beneath_lots, word_machine
from truebooks.calls import answer_program
from truebooks.errors import OtherAlphabet, TooLarge
from truebooks.fits import follow_run
from truebooks.lots import within
from truebooks.programs import MOST_ROWS
from truebooks.reach import shortest_run
from truebooks.rows import check_alphabet
from truebooks.runs import MOST_FUEL, run_program
from truebooks.tables import check_word
from truebooks.told import call_of_told, program_with_told, row_of_step

# Each rule takes at most two rows, and told procedures take few.
MOST_RULES = 1000
TREATMENTS = ("entry", ("callers", 3), ("callers", 2), ("callers", 1), "one")


class Shown:
    """A program and the choices of its run that show a couple."""

    def __init__(self, program, choices):
        self.program = program
        self.choices = tuple(choices)

    def __eq__(self, other):
        return (isinstance(other, Shown) and self.program == other.program
                and self.choices == other.choices)


class NeverLies:
    """The verdict on a book that never lies: the lots of the numbers beneath its words."""

    def __init__(self, lots):
        self.lots = tuple(lots)

    def __eq__(self, other):
        return isinstance(other, NeverLies) and self.lots == other.lots


class Lies:
    """The verdict on a book that lies: a step of a run that leaves the word told there."""

    def __init__(self, program, choices, at, variable, word, number):
        self.program = program
        self.choices = tuple(choices)
        self.at = at
        self.variable = variable
        self.word = word
        self.number = number

    def __eq__(self, other):
        return (isinstance(other, Lies) and self.program == other.program
                and self.choices == other.choices and self.at == other.at
                and self.variable == other.variable and self.word == other.word
                and self.number == other.number)


def show_couple(book, word, number):
    """Return Shown for a couple, None if it is none, or raise BadWord or TooLarge."""
    check_word(book, word)
    if number not in beneath_lots(book)[word]:
        return None

    def is_it(station, present):
        return station == word and present == number

    rows, _ = _shown_rows(book, is_it)
    return Shown(program_with_told(book, 1, rows), ())


def verdict(book):
    """Return NeverLies, or Lies with a run that leaves a told word, or raise TooLarge."""
    lots = beneath_lots(book)
    if all([within(lot, meaning) is None for lot, meaning in zip(lots, book.meanings)]):
        return NeverLies(lots)

    def is_false(station, number):
        return number not in book.meanings[station]

    rows, word = _shown_rows(book, is_false)
    program = program_with_told(book, 1, rows)
    run = run_program(program, (), MOST_FUEL)
    return Lies(program, (), len(run.steps) - 1, 0, word, run.steps[-1][3][0])


def _shown_rows(book, is_wanted):
    """Return rows that show a wanted couple that fewest rules lead to, and its word.

    Their run takes first blocks alone.
    """
    machine = word_machine(book)
    run = shortest_run(machine, is_wanted, MOST_RULES)
    if run is None:
        raise TooLarge(MOST_ROWS)
    rules = [machine.arrows[index] for index in run[1]]
    word = rules[-1][2] if rules else book.first
    rows = []
    # Once NONE is told the rest of a block has no rows of words, whatever stands there.
    is_none = False
    for _, move, target in rules:
        if move[0] == "deed":
            rows.append(row_of_step(move, 0))
        elif not is_none:
            rows.append(_row_of_rule(move, target))
        is_none = is_none or target == 0
    if is_none and word != 0:
        rows = [("either", tuple(rows), (call_of_told(word),))]
    return tuple(rows), word


def _row_of_rule(move, target):
    """Return the row for a test or a join; a join with what comes out of it does the same."""
    if move[0] == "stay":
        return ("either", (), (call_of_told(target),))
    return row_of_step(move, 0)


def lie_fault(book, lie):
    """Return None if a lie holds, by running and climbing alone, else the first fault."""
    try:
        check_alphabet(book, lie.program)
    except OtherAlphabet:
        return "alphabet"
    run = run_program(lie.program, lie.choices, MOST_FUEL)
    if not 0 <= lie.at < len(run.steps):
        return "step"
    values = run.steps[lie.at][3]
    if not 0 <= lie.variable < len(values):
        return "variable"
    if values[lie.variable] != lie.number:
        return "number"
    for treatment in TREATMENTS:
        answer = answer_program(book, lie.program, treatment)
        _, row = follow_run(book, lie.program, answer, run)[lie.at]
        if (0 if row is None else row[lie.variable]) != lie.word:
            return "word"
    return "within" if lie.number in book.meanings[lie.word] else None
