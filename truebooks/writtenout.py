"""Rows of a procedure written out for rows of words: without loops and calls."""

from truebooks.depths import Scope
from truebooks.errors import TooLarge
from truebooks.programs import DEEPEST, MOST_ROWS, MOST_VARIABLES, blocks_of, rows_count
from truebooks.rows import join_rows
from truebooks.told import bar

# Stands for the variable that keeps the first word until its number is known.
FRESH = -1


class Writer:
    """Writes pieces: couples of a row and the list of the marks of it and of its blocks' rows.

    It stops with TooLarge as soon as the whole text would pass a bound.
    """

    def __init__(self, depths):
        self.depths = depths
        self.flows = depths.flows
        self.many_rows = 0
        self.variables = 0
        self.needs_fresh = False

    def take_variables(self, many):
        """Let the text have at least so many variables."""
        self.variables = max(self.variables, many)
        if self.variables + (1 if self.needs_fresh else 0) > MOST_VARIABLES:
            raise TooLarge(MOST_VARIABLES)

    def single(self, row, mark=None):
        """Return the piece of a row without blocks."""
        self._count(1)
        return (row, [mark])

    def hand_over(self, scope, sources, inner):
        """Return the pieces that copy variables of a caller into those of its callee."""
        many = self.flows[inner.name].variables
        if len(sources) < many:
            self.needs_fresh = True
        self.take_variables(inner.base + many)
        origins = [scope.base + source for source in sources]
        origins.extend([FRESH] * (many - len(sources)))
        return [self.single(("copy", inner.base + at, origin)) for at, origin in enumerate(origins)]

    def ahead(self, scope, rows, place, target, words):
        """Return the pieces of what is ahead of a target, and the words there.

        The rows are a block whose first place is given, and the target is in it or behind it.
        """
        pieces = []
        for row in rows:
            size = rows_count((row,))
            if place == target and row[0] == "while":
                more, words = self._turns(scope, row, place, words, 0)
            elif place == target:
                more = []
            elif target < place + size:
                more, words = self._into(scope, row, place, target, words)
            else:
                more, words = self._row(scope, row, place, words, 0)
            pieces.extend(more)
            place += size
            if target < place:
                return pieces, words
        return pieces, words

    def _count(self, rows):
        self.many_rows += rows
        if self.many_rows > MOST_ROWS:
            raise TooLarge(MOST_ROWS)

    def _begin(self, nest):
        """Count a row with a block that stands inside so many blocks."""
        if nest >= DEEPEST:
            raise TooLarge(DEEPEST)
        self._count(1)

    def _bar(self, scope, row, holds, nest):
        self._begin(nest)
        self._count(1)
        return (bar(scope.base + row[1], row[2], holds), [None, None])

    def _into(self, scope, row, place, target, words):
        """Return the pieces that lead to a target inside a block of a row, and the words there."""
        side = 0
        first = place + 1
        blocks = blocks_of(row)
        while target >= first + rows_count(blocks[side]):
            first += rows_count(blocks[side])
            side += 1
        if row[0] == "either":
            pieces = [self.single(("copy", scope.base, scope.base), side)]
        else:
            pieces = []
            if row[0] == "while":
                pieces, words = self._turns(scope, row, place, words, 0)
            pieces.append(self._bar(scope, row, side == 0, 0))
        words = self._led(scope, place, words, 0)[side]
        more, words = self.ahead(scope, blocks[side], first, target, words)
        return [*pieces, *more], words

    def _led(self, scope, place, words, result):
        """Return the list of the words behind each arrow of a place."""
        return [after for _, after in self.flows[scope.name].brought(place, words, result)]

    def _block(self, scope, block, place, words, nest):
        """Return the pieces of a block whose first row is at a place, and the words behind it."""
        pieces = []
        for row in block:
            if words is None:
                pieces.append(self.single(("stop",)))
                return pieces, None
            more, words = self._row(scope, row, place, words, nest)
            pieces.extend(more)
            place += rows_count((row,))
        return pieces, words

    def _row(self, scope, row, place, words, nest):
        """Return the pieces of the row at a place, and the words behind it."""
        if row[0] == "call":
            return self._call(scope, row, place, words, nest)
        if row[0] in ("if", "either"):
            return self._fork(scope, row, place, words, nest)
        if row[0] == "while":
            pieces, words = self._turns(scope, row, place, words, nest)
            pieces.append(self._bar(scope, row, False, nest))
            return pieces, self._led(scope, place, words, 0)[1]
        piece = self.single(moved(row, scope.base))
        return [piece], self.depths.row_behind(scope, row, place, words)

    def _fork(self, scope, row, place, words, nest):
        self._begin(nest)
        blocks = []
        joined = None
        first = place + 1
        for block, inner in zip(blocks_of(row), self._led(scope, place, words, 0)):
            pieces, behind = self._block(scope, block, first, inner, nest + 1)
            blocks.append(pieces)
            joined = join_rows(self.depths.book, joined, behind)
            first += rows_count(block)
        if row[0] == "either":
            return [holding(("either",), blocks, "keep")], joined
        return [holding(("if", scope.base + row[1], row[2]), blocks, None)], joined

    def _turns(self, scope, row, place, words, nest):
        """Return the pieces of the turns of a while, and the words at it behind them."""
        turns = []
        joined = self.depths.turn_behind(scope, row, place, words)
        while joined != words:
            self._begin(nest)
            guard = self._bar(scope, row, True, nest + 1)
            inner = self._led(scope, place, words, 0)[0]
            pieces, _ = self._block(scope, row[3], place + 1, inner, nest + 1)
            turns.append(holding(("either",), [[], [guard, *pieces]], None))
            words = joined
            joined = self.depths.turn_behind(scope, row, place, words)
        return turns, words

    def _call(self, scope, row, place, words, nest):
        _, _, sources, variable = row
        callee, key = self.depths.asked(scope.name, place, words)
        word = self.depths.word_back(callee, key, scope.depth)
        if word == 0:
            return [self.single(("stop",))], None
        depth = 1
        while self.depths.word_back(callee, key, depth) != word:
            depth += 1
        inner = Scope(callee, depth - 1, scope.base + self.flows[scope.name].variables)
        pieces = self.hand_over(scope, sources, inner)
        body, _ = self._block(inner, self.flows[callee].rows, 0, key, nest)
        pieces.extend(body)
        pieces.append(self.single(("copy", scope.base + variable, inner.base)))
        return pieces, self._led(scope, place, words, word)[0]


def moved(row, base):
    """Return a row without blocks with its variables moved on by a base."""
    if row[0] == "stop":
        return row
    last = row[2] + base if row[0] == "copy" else row[2]
    return (row[0], row[1] + base, last)


def holding(head, blocks, mark):
    """Return the piece of a row that has blocks of pieces."""
    marks = [mark]
    for block in blocks:
        marks.extend(marks_of(block))
    return ((*head, *[rows_of(block) for block in blocks]), marks)


def rows_of(pieces):
    """Return the rows of pieces."""
    return tuple([row for row, _ in pieces])


def marks_of(pieces):
    """Return the list of the marks of pieces, by places."""
    return [mark for _, marks in pieces for mark in marks]
