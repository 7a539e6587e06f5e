"""Books as texts [4.11]."""

import random
import unittest

from support import chain_book, error_of, parity_book, sign_book
from test_smalltexts import NO_PLAIN_NUMBERS
from test_tables import random_book
from truebooks.booktext import read_book, write_book

PARITY = """words 4
first 1
letter set 0
letter add 1
join 0 1 2 3
join 1 1 3 3
join 2 3 2 3
join 3 3 3 3
meaning 0 -1 1 inside ups downs
meaning 0 -1 2 inside ups 0 downs 0
meaning 0 -1 2 inside ups 1 downs 1
meaning 0 -1 1 inside ups 0 downs 0
deed 0 1 1 1
deed 0 2 1 3
"""


def changed(text, *changes):
    """The text with lines (counted from 1) put in the place of others."""
    lines = text.split("\n")
    for number, line in changes:
        lines[number - 1] = line
    return "\n".join(line for line in lines if line is not None)


class BookTextTest(unittest.TestCase):
    def assert_text(self, line, text, what="line"):
        self.assertEqual(error_of(read_book, text), ("BadText", line, what), text)

    def test_the_example_book(self):
        self.assertEqual(write_book(parity_book()), PARITY)
        self.assertEqual(read_book(PARITY), parity_book())

    def test_tests_are_written_behind_letters_and_tables_in_turn(self):
        lines = write_book(sign_book()).split("\n")
        self.assertEqual(lines[2:8], ["letter set 0", "letter add 1", "letter turn", "letter mod 3",
                                      "test is 0", "test below 1"])
        self.assertEqual(lines[20:], ["so 0 1 0 1", "not 0 0 2 3", "so 0 1 0 3", "not 0 0 2 2", ""])

    def test_there_and_back(self):
        rng = random.Random(91)
        books = [sign_book(), chain_book(2), chain_book(12)] + [random_book(rng) for _ in range(40)]
        for book in books:
            self.assertEqual(read_book(write_book(book)), book)

    def test_text(self):
        for text in (None, 3, b"words 4\n", "", PARITY[:-1], "words 4"):
            self.assert_text(0, text, "text")

    def test_lines_without_their_form(self):
        for number, lines in ((1, ("words", "words 1", "words 13", "words 4 4", "words x", "Words 4",
                                   "words  4", " words 4", "words 4 ", "first 1", "words -4", "")),
                              (2, ("first", "first x", "first 1 1", "first  1", "words 4", "")),
                              (3, ("letter", "letter set", "letter  set 0", "letter is 0", "letters set 0",
                                   "letter set 0 ", "", "test set 0", "test is")),
                              (5, ("join 0 1 2", "join 0 1 2 3 0", "join 0 1 2 x", "join  0 1 2 3",
                                   "deed 0 1 2 3", "join 0 1 2 3 ", "", "letter", "test turn")),
                              (9, ("meaning", "meaning 0 -1 1 inside ups", "0 -1 1 inside ups downs",
                                   "meaning  0 -1 1 inside ups downs", "meaning 0 -1 1 inside ups downs ",
                                   "join 0 0 0 0", "")),
                              (13, ("deed 0 1 1", "deed 0 1 1 1 1", "so 0 1 1 1", "deed", "", "meaning",
                                    "deed 0 1 1 1 "))):
            for line in lines:
                self.assert_text(number, changed(PARITY, (number, line)))

    def test_numbers(self):
        for word in NO_PLAIN_NUMBERS:
            if "\n" not in word:
                for number, line in ((1, f"words {word}"), (2, f"first {word}"), (4, f"letter add {word}"),
                                     (5, f"join 0 1 {word} 3"), (10, f"meaning {word} -1 1 inside ups downs"),
                                     (14, f"deed {word} 2 1 3")):
                    self.assert_text(number, changed(PARITY, (number, line)))

    def test_a_letter_line_behind_a_test_line(self):
        text = write_book(sign_book())
        self.assert_text(7, changed(text, (6, "test is 0"), (7, "letter mod 3")))
        self.assert_text(8, changed(text, (8, "letter mod 4")))

    def test_so_and_not_take_turns(self):
        text = write_book(sign_book())
        self.assertEqual(text.split("\n")[20][:2], "so")
        self.assert_text(21, changed(text, (21, "not 0 0 2 3")))
        self.assert_text(22, changed(text, (22, "so 0 1 0 3")))

    def test_too_many_lines_and_lines_that_lack(self):
        self.assert_text(15, PARITY + "deed 0 1 1 1\n")
        self.assert_text(15, PARITY + "\n")
        self.assert_text(15, PARITY + "so 0 1 1 1\n")
        lines = PARITY.split("\n")[:-1]
        for many in range(1, len(lines)):
            self.assert_text(many + 1, "\n".join(lines[:many]) + "\n")
        self.assert_text(24, "\n".join(write_book(sign_book()).split("\n")[:23]) + "\n")

    def test_the_first_line_at_fault(self):
        self.assert_text(2, changed(PARITY, (2, "first"), (5, "join")))
        self.assert_text(12, changed(PARITY, (9, "meaning 5 3 1 inside ups downs"), (12, "meaning")))
        self.assert_text(15, changed(PARITY, (9, "meaning 5 3 1 inside ups downs")) + "go\n")

    def test_then_the_errors_of_lots_line_by_line(self):
        text = changed(PARITY, (3, "letter set 99"), (10, "meaning 0 -1 0 inside ups downs"),
                       (11, "meaning 5 3 1 inside ups downs"))
        self.assertEqual(error_of(read_book, text), ("BadLot", "modulus"))
        text = changed(PARITY, (11, "meaning -20000 -20000 2 inside -20000 ups 0 downs"),
                       (12, "meaning 5 3 1 inside ups downs"))
        self.assertEqual(error_of(read_book, text), ("TooLong", 20000))

    def test_then_those_of_books(self):
        for changes, fault in ((((3, "letter set 99"), (2, "first 9")), ("letters", 0)),
                               (((4, "letter set 0"),), ("letters", 1)),
                               (((3, "letter set 1"),), ("letters", -1)),
                               (((3, None), (4, None), (13, None), (14, None)), ("letters", -1)),
                               (((5, "join 0 1 2 4"),), ("joins", 0)),
                               (((5, "join 0 1 2 -3"),), ("joins", 0)),
                               (((9, "meaning 0 0 1 inside 0 ups downs"),), ("empty", 0)),
                               (((10, "meaning 0 -1 61 inside ups 0 downs"),), ("meanings", 1)),
                               (((13, "deed 1 1 1 1"),), ("deed", 0)),
                               (((2, "first 0"),), ("first", 0)), (((2, "first 999999"),), ("first", 0))):
            self.assertEqual(error_of(read_book, changed(PARITY, *changes)), ("BadBook", *fault), changes)
        many = changed(PARITY, (4, "\n".join(f"letter add {n}" for n in range(10))),
                       (14, "\n".join(["deed 0 2 1 3"] * 10)))
        self.assertEqual(error_of(read_book, many), ("BadBook", "letters", -1))

    def test_other_descriptions_of_lots_are_read(self):
        text = changed(PARITY, (10, "meaning 7 6 4 inside ups 2 0 downs 0 2"))
        self.assertEqual(read_book(text), parity_book())


if __name__ == "__main__":
    unittest.main()
