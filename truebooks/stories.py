"""Stories: the deeds of a desk played again, and written as texts."""

from truebooks.basics import plain_number, plain_numbers, text_lines, text_of_lines
from truebooks.desk import Desk, do_deeds
from truebooks.errors import BadStoryText, BadText
from truebooks.programtext import lines_of_row, procedure_of_words, read_rows

DONE = "done"
# How many words a line of an edit has.
EDIT_WORDS = {"row": 3, "put": 3, "strike": 3, "unit": 1, "drop": 2, "first": 2}


def play_story(book, program, treatment, deeds):
    """Return a new desk on which deeds were done, or raise BadStory."""
    desk = Desk(book, program, treatment)
    do_deeds(desk, deeds)
    return desk


def write_story(deeds):
    """Return the text of deeds."""
    return text_of_lines([line for deed in deeds for line in _lines_of_deed(deed)])


def _line_of(parts):
    return " ".join([str(part) for part in parts])


def _lines_of_deed(deed):
    kind = deed[0]
    if kind == "back":
        return ["deed back"]
    what = deed[1]
    if kind == "program":
        return ["deed program", *text_lines(what), DONE]
    if kind == "edit":
        return ["deed edit", *[line for edit in what for line in _lines_of_edit(edit)], DONE]
    if kind == "raise":
        return ["deed raise", *[_line_of(["raise", *item]) for item in what], DONE]
    if kind == "treat" and isinstance(what, str):
        what = (what,)
    return [_line_of(["deed", kind, *what])]


def _lines_of_edit(edit):
    kind = edit[0]
    if kind in ("row", "put"):
        return [_line_of(edit[:3]), *lines_of_row(edit[3]), DONE]
    if kind != "unit":
        return [_line_of(edit)]
    lines = ["unit"]
    for name, variables, rows in edit[1]:
        lines.append(_line_of(["procedure", name, variables]))
        for row in rows:
            lines.extend(lines_of_row(row))
    return [*lines, DONE]


def read_story(text):
    """Return the deeds of a text, or raise BadStoryText with the line of the first wrong one."""
    lines = text_lines(text)
    if lines is None:
        raise BadStoryText(0)
    reader = StoryReader(lines)
    deeds = []
    while reader.at < len(lines):
        first = reader.at + 1
        try:
            deeds.append(reader.take_deed())
        except BadText:
            raise BadStoryText(first) from None
    return tuple(deeds)


class StoryReader:
    """Takes the lines of a story; all that has not its form raises BadText."""

    def __init__(self, lines):
        self.lines = lines
        self.at = 0

    def take_deed(self):
        """Return the deed that begins at the next line, and go behind it."""
        words = self._take_words()
        if words == ["deed", "back"]:
            return ("back",)
        if words == ["deed", "program"]:
            return ("program", text_of_lines(self._take_body()))
        if words == ["deed", "edit"]:
            return ("edit", self._take_edits())
        if words == ["deed", "raise"]:
            return ("raise", tuple([self._raise_of(line.split(" ")) for line in self._take_body()]))
        if words[:2] == ["deed", "order"]:
            return ("order", self._numbers(words[2:]))
        if words in (["deed", "treat", "entry"], ["deed", "treat", "one"]):
            return ("treat", words[2])
        if words[:3] == ["deed", "treat", "callers"] and len(words) == 4:
            return ("treat", ("callers", *self._numbers(words[3:])))
        raise BadText(self.at, "line")

    def _check(self, holds):
        if not holds:
            raise BadText(self.at, "line")

    def _take_words(self):
        """Return the words of the next line, and go behind it."""
        self._check(self.at < len(self.lines))
        self.at += 1
        return self.lines[self.at - 1].split(" ")

    def _take_body(self):
        """Return the lines up to the next one that is done, and go behind it."""
        self._check(DONE in self.lines[self.at:])
        first = self.at
        while self.lines[self.at] != DONE:
            self.at += 1
        self.at += 1
        return self.lines[first:self.at - 1]

    def _numbers(self, words):
        """Return the tuple of the numbers of words."""
        numbers = plain_numbers(words)
        self._check(numbers is not None)
        return tuple(numbers)

    def _raise_of(self, words):
        self._check(words[0] == "raise" and len(words) == 5 and words[1] != "")
        return (words[1], *self._numbers(words[2:]))

    def _take_edits(self):
        """Return the edits up to the line that is done, and go behind it."""
        edits = []
        words = self._take_words()
        while words != [DONE]:
            edits.append(self._take_edit(words))
            words = self._take_words()
        return tuple(edits)

    def _take_edit(self, words):
        """Return the edit whose first line has these words, and go behind it."""
        kind = words[0]
        self._check(kind in EDIT_WORDS and len(words) == EDIT_WORDS[kind] and words[-1] != "")
        if kind == "unit":
            return ("unit", self._unit_of(self._take_body()))
        if kind in ("drop", "first"):
            return (kind, words[1])
        place = plain_number(words[2])
        self._check(words[1] != "" and place is not None)
        if kind == "strike":
            return (kind, words[1], place)
        rows = read_rows(text_of_lines(self._take_body()))
        self._check(len(rows) == 1)
        return (kind, words[1], place, rows[0])

    def _unit_of(self, lines):
        """Return the procedures that lines tell."""
        parts = []
        for line in lines:
            head = procedure_of_words(line.split(" "))
            if head is not None:
                parts.append((head, []))
            else:
                self._check(len(parts) > 0)
                parts[-1][1].append(line)
        return tuple([(head[0], head[1], read_rows(text_of_lines(inner))) for head, inner in parts])
