"""The errors of the package: each stands straight under BookError."""


class BookError(ValueError):
    """What every error of the package is."""


class BadLot(BookError):
    """A wrong part in the description of a lot: the word for the part."""

    def __init__(self, what):
        self.what = what


class TooLong(BookError):
    """A lot, or a row of rows, that would pass a bound: the bound."""

    def __init__(self, most):
        self.most = most


class BadText(BookError):
    """A text that has not its form: the line, and what is wrong there."""

    def __init__(self, line, what):
        self.line = line
        self.what = what


class BadLetter(BookError):
    """No letter."""


class BadTest(BookError):
    """No test."""


class BadMove(BookError):
    """No move."""


class BadMachine(BookError):
    """A wrong part of a machine: the word for the part, and its index."""

    def __init__(self, what, at):
        self.what = what
        self.at = at


class BadLots(BookError):
    """No sequence of lots as it is asked for."""


class BadBook(BookError):
    """A wrong part of a book: the word for the fault, and its place."""

    def __init__(self, what, at):
        self.what = what
        self.at = at


class BadWord(BookError):
    """No word of the book."""


class NoLetter(BookError):
    """A letter that the book has not."""


class NoTest(BookError):
    """A test that the book has not."""


class BadRaise(BookError):
    """A wrong raise: its index."""

    def __init__(self, at):
        self.at = at


class BadNames(BookError):
    """No new names for all words of a book."""


class BadProgram(BookError):
    """A wrong part of a program: procedure, place, and the word for the fault."""

    def __init__(self, name, place, what):
        self.name = name
        self.place = place
        self.what = what


class NoProcedure(BookError):
    """A procedure that the program has not."""

    def __init__(self, name):
        self.name = name


class BadPlace(BookError):
    """No place of the procedure."""


class BadChoices(BookError):
    """Wrong choices: the index of the wrong one."""

    def __init__(self, at):
        self.at = at


class BadFuel(BookError):
    """No good fuel."""


class BadMost(BookError):
    """No good bound for the number of runs."""


class TooMany(BookError):
    """More runs than were asked for."""

    def __init__(self, most):
        self.most = most


class BadStep(BookError):
    """No step of the run."""


class OtherAlphabet(BookError):
    """Letters or tests that the other side has not."""


class BadEntry(BookError):
    """No row of words that a procedure can be entered with."""


class BadResults(BookError):
    """No results for the places of a procedure."""


class BadOrder(BookError):
    """No order of the places of a procedure."""


class BadPicks(BookError):
    """No picks."""


class BadTreatment(BookError):
    """No treatment of calls."""


class BadCalls(BookError):
    """Wrong call places: the index of the wrong one."""

    def __init__(self, at):
        self.at = at


class BadUnit(BookError):
    """A wrong unit: its index."""

    def __init__(self, at):
        self.at = at


class BadEdit(BookError):
    """An edit that cannot be done: its index, and why."""

    def __init__(self, at, what):
        self.at = at
        self.what = what


class NothingBack(BookError):
    """Nothing that could be taken back."""


class TooLarge(BookError):
    """A program or a book that would pass a bound: the bound."""

    def __init__(self, most):
        self.most = most


class NotTold(BookError):
    """A word that is never told."""

    def __init__(self, word):
        self.word = word


class NoCouple(BookError):
    """A couple of words that is never told."""


class BadSteps(BookError):
    """Wrong steps: the index of the wrong one."""

    def __init__(self, at):
        self.at = at


class StillLies(BookError):
    """A book that lies where one is asked for that does not."""


class NoLeast(BookError):
    """A step and a word for which there is no least word."""

    def __init__(self, step, word):
        self.step = step
        self.word = word


class BadPool(BookError):
    """A wrong pool of raises: the index of the wrong one."""

    def __init__(self, at):
        self.at = at


class Unfit(BookError):
    """A program that is not plain: the word for what is wrong."""

    def __init__(self, what):
        self.what = what


class NoNeed(BookError):
    """A place at which no need stands."""

    def __init__(self, place):
        self.place = place


class NoAlarm(BookError):
    """A place at which there is no alarm."""

    def __init__(self, place):
        self.place = place


class BadDeed(BookError):
    """No deed of a desk."""


class BadStory(BookError):
    """A story with a deed that cannot be done: its index."""

    def __init__(self, at):
        self.at = at


class BadStoryText(BookError):
    """A text that tells no story: the line of its first wrong deed."""

    def __init__(self, line):
        self.line = line
