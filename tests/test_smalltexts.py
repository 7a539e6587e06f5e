"""Letters, tests and lots as texts [1.10], [1.11]."""

import random
import unittest

from support import error_of, evens
from test_letters import LETTERS, TESTS
from truebooks.lettertext import read_letter, read_test, write_letter, write_test
from truebooks.lots import empty_lot, just_lot, make_lot, whole_lot
from truebooks.lottext import read_lot, write_lot

LINE = ("BadText", 1, "line")
NO_PLAIN_NUMBERS = ("-0", "00", "03", "-03", "+3", "--3", "-", "", "3.0", "1000000", "-1000000",
                    "0x1", "1_0", " 3", "3 ", "\u0663", "\u00b2", "3\n", "\t3", "a")


class LettersTest(unittest.TestCase):
    def test_the_examples(self):
        self.assertEqual(write_letter(("set", 3)), "set 3")
        self.assertEqual(write_letter(("add", -2)), "add -2")
        self.assertEqual(write_letter(("turn",)), "turn")
        self.assertEqual(write_letter(("mod", 4)), "mod 4")
        self.assertEqual(write_test(("below", 3)), "below 3")
        self.assertEqual(write_test(("is", -1)), "is -1")
        self.assertEqual(write_test(("rest", 4, 0)), "rest 4 0")

    def test_there_and_back(self):
        for letter in LETTERS:
            self.assertEqual(read_letter(write_letter(letter)), letter)
        for test in TESTS:
            self.assertEqual(read_test(write_test(test)), test)

    def test_wrong_forms(self):
        for text in (None, 3, b"turn", ["turn"], "", " ", "set", "set 1 2", "set  1", " set 1",
                     "set 1 ", "turn 0", "turn ", "Set 1", "mod", "below 3", "set\t1", "set 1\n",
                     "mod 4 0", "jump 3"):
            self.assertEqual(error_of(read_letter, text), LINE, text)
        for text in (None, 3, b"is 1", "", "is", "is 1 2", "is  1", " is 1", "is 1 ", "rest 3",
                     "rest 3 1 0", "rest 3  1", "set 3", "turn", "below", "is\t1", "rest 3 1\n"):
            self.assertEqual(error_of(read_test, text), LINE, text)
        for word in NO_PLAIN_NUMBERS:
            self.assertEqual(error_of(read_letter, "add " + word), LINE, word)
            self.assertEqual(error_of(read_test, "rest 3 " + word), LINE, word)
            self.assertEqual(error_of(read_test, "rest " + word + " 0"), LINE, word)

    def test_numbers_out_of_range(self):
        for text in ("set 21", "add -21", "mod 0", "mod 7", "mod -1", "set 999999", "add -999999"):
            self.assertEqual(error_of(read_letter, text), ("BadLetter",), text)
        for text in ("below 21", "is -21", "rest 0 0", "rest 7 0", "rest 3 3", "rest 3 -1"):
            self.assertEqual(error_of(read_test, text), ("BadTest",), text)


class LotsTest(unittest.TestCase):
    def test_the_example(self):
        self.assertEqual(write_lot(evens()), "0 -1 2 inside ups 0 downs 0")
        self.assertEqual(read_lot("0 -1 2 inside ups 0 downs 0"), evens())
        self.assertEqual(write_lot(empty_lot()), "0 -1 1 inside ups downs")
        self.assertEqual(write_lot(whole_lot()), "0 -1 1 inside ups 0 downs 0")
        self.assertEqual(write_lot(just_lot([-3, 5])), "-3 5 1 inside -3 5 ups downs")

    def test_there_and_back(self):
        rng = random.Random(31)
        for _ in range(100):
            modulus = rng.randint(1, 9)
            inside = [n for n in range(-6, 7) if rng.random() < 0.4]
            sides = [[n for n in range(modulus) if rng.random() < 0.3] for _ in range(2)]
            lot = make_lot(-6, 6, inside, modulus, *sides)
            self.assertEqual(read_lot(write_lot(lot)), lot)
        edge = make_lot(-20000, 20000, [-20000, 20000], 10080, [10079], [0, 5])
        self.assertEqual(read_lot(write_lot(edge)), edge)

    def test_other_descriptions_are_read_in_the_one_form(self):
        self.assertEqual(read_lot("7 6 4 inside ups 2 0 downs 0 2"), evens())
        self.assertEqual(read_lot("0 3 1 inside 3 0 ups downs"), just_lot([0, 3]))

    def test_wrong_forms(self):
        for text in (None, 7, b"0 -1 1 inside ups downs", "", "0 -1 inside ups downs",
                     "0 -1 1 0 inside ups downs", "0 -1 1 ups downs", "0 -1 1 inside downs ups",
                     "0 -1 1 inside ups", "0 -1 1 inside ups downs downs", " 0 -1 1 inside ups downs",
                     "0 -1 1 inside ups downs ", "0 -1 1 inside  ups downs", "0 -1 1 inside ups ups downs",
                     "0 -1 1 inside ups downs\n", "0\t-1 1 inside ups downs", "inside ups downs",
                     "0 -1 1 inside inside ups downs", "0 -1 1 ups inside downs", "0 -1 1",
                     "0 -1 1 Inside ups downs"):
            self.assertEqual(error_of(read_lot, text), LINE, text)
        for word in NO_PLAIN_NUMBERS:
            for text in (f"{word} 9 2 inside ups downs", f"0 {word} 2 inside ups downs",
                         f"0 9 {word} inside ups downs", f"0 9 2 inside {word} ups downs",
                         f"0 9 2 inside ups {word} downs", f"0 9 2 inside ups downs {word}"):
                self.assertEqual(error_of(read_lot, text), LINE, text)

    def test_then_the_errors_of_make_lot(self):
        for text, what in (("5 3 1 inside ups downs", "core"), ("999999 0 1 inside ups downs", "core"),
                           ("0 1 1 inside 2 ups downs", "inside"), ("0 1 0 inside ups downs", "modulus"),
                           ("0 1 1 inside 0 0 ups downs", "inside"), ("0 1 2 inside ups 2 downs", "ups"),
                           ("0 1 2 inside ups downs -1", "downs")):
            self.assertEqual(error_of(read_lot, text), ("BadLot", what), text)
        self.assertEqual(error_of(read_lot, "-20000 -20000 2 inside -20000 ups 0 downs"),
                         ("TooLong", 20000))


if __name__ == "__main__":
    unittest.main()
