"""Letters and tests [2.1], [2.2]."""

import random
import unittest

from support import error_of, evens, odds
from truebooks.letters import (
    check_letter, check_test, do_letter, lot_after, lot_before, lot_of_test, passes,
)
from truebooks.lots import empty_lot, just_lot, make_lot, range_lot, whole_lot

FAR = 10 ** 30
LETTERS = ([("set", n) for n in (-20, -1, 0, 20)] + [("add", n) for n in (-20, -3, 0, 1, 20)]
           + [("turn",)] + [("mod", n) for n in range(1, 7)])
TESTS = ([("below", n) for n in (-20, 0, 3, 20)] + [("is", n) for n in (-20, -1, 0, 20)]
         + [("rest", m, r) for m in range(1, 7) for r in range(m)])
NO_LETTERS = (None, "set", "turn", (), [], ("set",), ("set", 21), ("set", -21), ("set", True),
              ("set", 1.0), ("set", "1"), ("set", 1, 1), ("add", 21), ("add", None), ("add",),
              ("turn", 1), ("turn", ()), ("mod", 0), ("mod", 7), ("mod", True), ("mod",),
              ("mod", 2, 0), ("below", 3), ("Set", 1), (1, "set"), (["set"], 1), {"set": 1},
              {"turn"}, ("stay",), 5, True)
NO_TESTS = (None, "is", (), [], ("below",), ("below", 21), ("below", -21), ("below", False),
            ("is", 21), ("is", True), ("is", 1, 2), ("rest", 3), ("rest", 0, 0), ("rest", 7, 0),
            ("rest", 3, 3), ("rest", 3, -1), ("rest", True, 0), ("rest", 2, True), ("rest", 2, 1, 0),
            ("rest", None, 0), ("rest", 3, None), ("set", 0), ("turn",), (["is"], 1), {"is": 1}, 0)


class CheckTest(unittest.TestCase):
    def test_good_ones_come_back_as_tuples(self):
        for letter in LETTERS:
            self.assertEqual(check_letter(letter), letter)
            self.assertEqual(check_letter(list(letter)), letter)
            self.assertIsInstance(check_letter(list(letter)), tuple)
        for test in TESTS:
            self.assertEqual(check_test(test), test)
            self.assertEqual(check_test(list(test)), test)
            self.assertIsInstance(check_test(list(test)), tuple)

    def test_wrong_ones(self):
        for letter in NO_LETTERS:
            self.assertEqual(error_of(check_letter, letter), ("BadLetter",), letter)
        for test in NO_TESTS:
            self.assertEqual(error_of(check_test, test), ("BadTest",), test)
        for test in TESTS:
            self.assertEqual(error_of(check_letter, test), ("BadLetter",), test)

    def test_what_is_passed_in_stays(self):
        letter = ["add", 3]
        check_letter(letter)
        self.assertEqual(letter, ["add", 3])


class NumbersTest(unittest.TestCase):
    def test_letters(self):
        self.assertEqual(do_letter(("set", -7), FAR), -7)
        self.assertEqual(do_letter(("add", -3), FAR), FAR - 3)
        self.assertEqual(do_letter(("turn",), FAR), -FAR)
        self.assertEqual(do_letter(("turn",), 0), 0)
        self.assertEqual(do_letter(("mod", 4), -1), 3)
        self.assertEqual(do_letter(("mod", 6), -FAR), -FAR % 6)
        self.assertEqual(do_letter(("mod", 1), 5), 0)

    def test_tests(self):
        for test, good, bad in ((("below", 3), (2, -FAR), (3, FAR)),
                                (("is", -1), (-1,), (1, 0, FAR)),
                                (("rest", 3, 2), (2, -1, 3 * FAR - 1), (0, 1, -2)),
                                (("rest", 1, 0), (0, -1, FAR), ())):
            for number in good:
                self.assertIs(passes(test, number), True)
            for number in bad:
                self.assertIs(passes(test, number), False)


class LotsTest(unittest.TestCase):
    def test_lot_of_test(self):
        for test in TESTS:
            lot = lot_of_test(test)
            for number in list(range(-50, 51)) + [FAR, -FAR, FAR + 1, -FAR - 1]:
                self.assertEqual(number in lot, passes(test, number))
        self.assertEqual(lot_of_test(("below", 3)), range_lot(None, 2))
        self.assertEqual(lot_of_test(("rest", 1, 0)), whole_lot())

    def lots(self):
        rng = random.Random(21)
        lots = [empty_lot(), whole_lot(), evens(), just_lot([0]), range_lot(None, -4)]
        for _ in range(30):
            modulus = rng.randint(1, 8)
            inside = [n for n in range(-6, 7) if rng.random() < 0.4]
            sides = [[n for n in range(modulus) if rng.random() < 0.3] for _ in range(2)]
            lots.append(make_lot(-6, 6, inside, modulus, *sides))
        return lots

    def test_after(self):
        for lot in self.lots():
            for letter in LETTERS:
                made = {do_letter(letter, n) for n in range(-400, 401) if n in lot}
                after = lot_after(letter, lot)
                for number in range(-100, 101):
                    self.assertEqual(number in after, number in made, (letter, number))

    def test_before(self):
        for lot in self.lots():
            for letter in LETTERS:
                before = lot_before(letter, lot)
                for number in range(-100, 101):
                    self.assertEqual(number in before, do_letter(letter, number) in lot)

    def test_edges(self):
        self.assertEqual(lot_after(("set", 4), empty_lot()), empty_lot())
        self.assertEqual(lot_after(("set", 4), odds()), just_lot([4]))
        self.assertEqual(lot_before(("set", 4), evens()), whole_lot())
        self.assertEqual(lot_before(("set", 3), evens()), empty_lot())
        self.assertEqual(lot_before(("mod", 4), just_lot([1, 7])), make_lot(0, -1, (), 4, [1], [1]))
        top = just_lot([20000])
        self.assertEqual(error_of(lot_after, ("add", 1), top), ("TooLong", 20000))
        self.assertEqual(error_of(lot_before, ("add", -1), top), ("TooLong", 20000))
        self.assertIsNone(error_of(lot_after, ("add", -1), top))
        side = make_lot(20000, 20000, [20000], 2, [], [0])
        self.assertEqual(error_of(lot_after, ("turn",), side), ("TooLong", 20000))
        self.assertEqual(error_of(lot_before, ("turn",), side), ("TooLong", 20000))


if __name__ == "__main__":
    unittest.main()
