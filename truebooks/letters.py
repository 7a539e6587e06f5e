"""Letters and tests: what they do to numbers and to lots."""

from truebooks.basics import is_sequence, is_whole_from
from truebooks.errors import BadLetter, BadTest
from truebooks.lots import (
    empty_lot, just_lot, make_lot, moved_lot, range_lot, rest_lot, turned_lot, whole_lot,
)

MOST = 20
MOST_REST = 6


def fits_letter(letter):
    """Tell whether a thing is a tuple or a list that says a letter."""
    if not is_sequence(letter) or not letter:
        return False
    if letter[0] == "turn":
        return len(letter) == 1
    if len(letter) != 2:
        return False
    if letter[0] == "mod":
        return is_whole_from(letter[1], 1, MOST_REST)
    return letter[0] in ("set", "add") and is_whole_from(letter[1], -MOST, MOST)


def fits_test(test):
    """Tell whether a thing is a tuple or a list that says a test."""
    if not is_sequence(test) or not test:
        return False
    if test[0] == "rest":
        return (len(test) == 3 and is_whole_from(test[1], 1, MOST_REST)
                and is_whole_from(test[2], 0, test[1] - 1))
    return len(test) == 2 and test[0] in ("below", "is") and is_whole_from(test[1], -MOST, MOST)


def check_letter(letter):
    """Return the letter as a tuple, or raise BadLetter."""
    if not fits_letter(letter):
        raise BadLetter()
    return tuple(letter)


def check_test(test):
    """Return the test as a tuple, or raise BadTest."""
    if not fits_test(test):
        raise BadTest()
    return tuple(test)


def do_letter(letter, number):
    """Return what the letter makes of the number."""
    if letter[0] == "set":
        return letter[1]
    if letter[0] == "add":
        return number + letter[1]
    if letter[0] == "turn":
        return -number
    return number % letter[1]


def passes(test, number):
    """Tell whether the number passes the test."""
    if test[0] == "below":
        return number < test[1]
    if test[0] == "is":
        return number == test[1]
    return number % test[1] == test[2]


def lot_of_test(test):
    """Return the lot of all numbers that pass the test."""
    if test[0] == "below":
        return range_lot(None, test[1] - 1)
    if test[0] == "is":
        return just_lot([test[1]])
    return _lot_of_rests(test[1], [test[2]])


def _lot_of_rests(modulus, rests):
    return make_lot(0, -1, (), modulus, rests, rests)


def lot_after(letter, lot):
    """Return the lot of what the letter makes of the lot's numbers."""
    if letter[0] == "set":
        return empty_lot() if lot.bare else just_lot([letter[1]])
    if letter[0] == "add":
        return moved_lot(lot, letter[1])
    if letter[0] == "turn":
        return turned_lot(lot)
    return rest_lot(lot, letter[1])


def lot_before(letter, lot):
    """Return the lot of all integers of which the letter makes a number of the lot."""
    if letter[0] == "set":
        return whole_lot() if letter[1] in lot else empty_lot()
    if letter[0] == "add":
        return moved_lot(lot, -letter[1])
    if letter[0] == "turn":
        return turned_lot(lot)
    return _lot_of_rests(letter[1], [rest for rest in range(letter[1]) if rest in lot])
