"""Books as texts."""

from truebooks.basics import plain_numbers, text_lines, text_of_lines
from truebooks.books import MOST_WORDS, Book
from truebooks.errors import BadText
from truebooks.lettertext import letter_of_words, test_of_words, write_letter, write_test
from truebooks.lots import make_lot
from truebooks.lottext import description_of_words, write_lot

LEAST_WORDS = 2


def write_book(book):
    """Return the text of a book."""
    lines = [f"words {book.many}", f"first {book.first}"]
    lines.extend(["letter " + write_letter(letter) for letter in book.letters])
    lines.extend(["test " + write_test(test) for test in book.tests])
    lines.extend([_row_line("join", row) for row in book.joins])
    lines.extend(["meaning " + write_lot(lot) for lot in book.meanings])
    lines.extend([_row_line("deed", row) for row in book.deeds])
    for so, not_so in zip(book.so, book.not_so):
        lines.append(_row_line("so", so))
        lines.append(_row_line("not", not_so))
    return text_of_lines(lines)


def _row_line(word, row):
    return " ".join([word, *[str(entry) for entry in row]])


def read_book(text):
    """Return the book of a text, or raise BadText, or what make_lot and Book raise."""
    lines = text_lines(text)
    if not lines:
        raise BadText(0, "text")
    reader = LineReader(lines)
    many = reader.take_numbers("words", 1)[0]
    if not LEAST_WORDS <= many <= MOST_WORDS:
        raise BadText(1, "line")
    first = reader.take_numbers("first", 1)[0]
    letters = reader.take_letters()
    tests = reader.take_tests()
    joins = [reader.take_numbers("join", many) for _ in range(many)]
    descriptions = [reader.take_description() for _ in range(many)]
    deeds = [reader.take_numbers("deed", many) for _ in letters]
    so = []
    not_so = []
    for _ in tests:
        so.append(reader.take_numbers("so", many))
        not_so.append(reader.take_numbers("not", many))
    reader.check_end()
    meanings = [make_lot(*description) for description in descriptions]
    return Book(letters, tests, joins, meanings, deeds, so, not_so, first)


class LineReader:
    """Reads the lines of a book one after another, each in the form that is due there."""

    def __init__(self, lines):
        self.lines = lines
        self.at = 0

    def take_numbers(self, word, many):
        """Return the numbers of the next line: a word and so many numbers."""
        words = self._words_behind(word)
        numbers = None if words is None else plain_numbers(words)
        if numbers is None or len(numbers) != many:
            raise BadText(self.at + 1, "line")
        self.at += 1
        return numbers

    def take_letters(self):
        """Return the letters of all next lines that begin as a line of a letter."""
        letters = []
        words = self._words_behind("letter")
        while words is not None:
            letters.append(self._taken(letter_of_words(words)))
            words = self._words_behind("letter")
        return letters

    def take_tests(self):
        """Return the tests of all next lines that begin as a line of a test."""
        tests = []
        words = self._words_behind("test")
        while words is not None:
            tests.append(self._taken(test_of_words(words)))
            words = self._words_behind("test")
        return tests

    def take_description(self):
        """Return the description of the lot of the next line."""
        words = self._words_behind("meaning")
        return self._taken(None if words is None else description_of_words(words))

    def check_end(self):
        """Raise BadText if there is a next line."""
        if self.at < len(self.lines):
            raise BadText(self.at + 1, "line")

    def _words_behind(self, word):
        """Return the words behind the first word of the next line, or None if it differs."""
        if self.at == len(self.lines):
            return None
        words = self.lines[self.at].split(" ")
        return words[1:] if words[0] == word else None

    def _taken(self, item):
        """Return what the next line tells and go on, or raise BadText for None."""
        if item is None:
            raise BadText(self.at + 1, "line")
        self.at += 1
        return item
