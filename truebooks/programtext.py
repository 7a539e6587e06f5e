"""Programs and rows as texts."""

from truebooks.basics import plain_number, plain_numbers, text_lines, text_of_lines
from truebooks.errors import BadText
from truebooks.lettertext import letter_of_words, test_of_words, write_letter, write_test
from truebooks.programs import Program, blocks_of

# The line between the two blocks of a row, and how many blocks a row has.
BETWEEN = {"if": "else", "either": "or"}
BLOCKS = {"if": 2, "either": 2, "while": 1}


def row_text(row):
    """Return the lines of a good row, each with its line feed."""
    return text_of_lines(lines_of_row(row))


def write_program(program):
    """Return the text of a program."""
    lines = []
    for name, variables, rows in program.procedures:
        lines.append(f"procedure {name} {variables}")
        for row in rows:
            lines.extend(lines_of_row(row))
    return text_of_lines(lines)


def lines_of_row(row):
    """Return the list of the lines of a good row."""
    lines = [_head_line(row)]
    blocks = blocks_of(row)
    for at, block in enumerate(blocks):
        if at == 1:
            lines.append(BETWEEN[row[0]])
        for inner in block:
            lines.extend(lines_of_row(inner))
    if blocks:
        lines.append("end")
    return lines


def _head_line(row):
    word = row[0]
    if word == "deed":
        return f"deed {row[1]} {write_letter(row[2])}"
    if word == "copy":
        return f"copy {row[1]} {row[2]}"
    if word in ("need", "if", "while"):
        return f"{word} {row[1]} {write_test(row[2])}"
    if word == "call":
        _, callee, args, target = row
        words = ["call", callee, *args, "to", target]
        return " ".join([str(part) for part in words])
    return word


def read_program(text):
    """Return the program of a text, or raise BadText or what Program raises."""
    lines = _checked_lines(text)
    procedures = []
    reader = RowReader()
    for at, line in enumerate(lines):
        head = procedure_of_words(line.split(" "))
        if head is None:
            if not reader.take(line, at + 1) or not procedures:
                raise BadText(at + 1, "order")
        elif reader.is_within():
            raise BadText(at + 1, "order")
        else:
            reader = RowReader()
            procedures.append((head, reader))
    if reader.is_within():
        raise BadText(len(lines) + 1, "order")
    return Program([(head[0], head[1], tuple(taken.done)) for head, taken in procedures])


def read_rows(text):
    """Return the rows of a text of their lines, or raise BadText."""
    lines = _checked_lines(text)
    reader = RowReader()
    for at, line in enumerate(lines):
        if not reader.take(line, at + 1):
            raise BadText(at + 1, "order")
    if reader.is_within():
        raise BadText(len(lines) + 1, "order")
    return tuple(reader.done)


def _checked_lines(text):
    lines = text_lines(text)
    if lines is None:
        raise BadText(0, "text")
    return lines


def procedure_of_words(words):
    """Return (name, variables) of a procedure line, or None."""
    if len(words) != 3 or words[0] != "procedure" or words[1] == "":
        return None
    variables = plain_number(words[2])
    return None if variables is None else (words[1], variables)


class RowReader:
    """Takes the lines of rows one after another; done has the rows that are complete."""

    def __init__(self):
        self.done = []
        # Rows without their end, the innermost last: (words ahead of the blocks, blocks).
        self.within = []

    def is_within(self):
        """Tell whether a row is still without its end."""
        return len(self.within) > 0

    def take(self, line, number):
        """Take the next line; return False if it stands out of order.

        It raises BadText with the number of the line if this has not the form of a line.
        """
        words = line.split(" ")
        if line in ("else", "or"):
            return self._begin_second(line)
        if line == "end":
            return self._end()
        head = head_of_words(words)
        if head is None:
            raise BadText(number, "line")
        if head[0] in BLOCKS:
            self.within.append((head, [[]]))
        else:
            self._put(head)
        return True

    def _put(self, row):
        rows = self.within[-1][1][-1] if self.within else self.done
        rows.append(row)

    def _begin_second(self, line):
        if not self.within:
            return False
        head, blocks = self.within[-1]
        if head[0] not in BETWEEN or BETWEEN[head[0]] != line or len(blocks) == 2:
            return False
        blocks.append([])
        return True

    def _end(self):
        if not self.within or len(self.within[-1][1]) != BLOCKS[self.within[-1][0][0]]:
            return False
        head, blocks = self.within.pop()
        self._put((*head, *[tuple(block) for block in blocks]))
        return True


def head_of_words(words):
    """Return a row, or the entries of a row ahead of its blocks, that words tell, or None."""
    if words in (["stop"], ["either"]):
        return (words[0],)
    if words[0] == "call":
        return _call_of_words(words)
    variable = plain_number(words[1]) if len(words) > 1 else None
    if variable is None:
        return None
    if words[0] == "copy":
        source = plain_number(words[2]) if len(words) == 3 else None
        return None if source is None else ("copy", variable, source)
    if words[0] == "deed":
        letter = letter_of_words(words[2:])
        return None if letter is None else ("deed", variable, letter)
    if words[0] in ("need", "if", "while"):
        test = test_of_words(words[2:])
        return None if test is None else (words[0], variable, test)
    return None


def _call_of_words(words):
    if len(words) < 4 or words[1] == "" or words[-2] != "to":
        return None
    args = plain_numbers(words[2:-2])
    target = plain_number(words[-1])
    if args is None or target is None:
        return None
    return ("call", words[1], tuple(args), target)
