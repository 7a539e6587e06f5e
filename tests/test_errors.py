"""The errors [0.4] and their list in the interface."""

import inspect
import unittest

from truebooks import errors

LISTED = """BadLot(what), TooLong(most), BadText(line, what), BadLetter(), BadTest(), BadMove(),
BadMachine(what, at), BadLots(), BadBook(what, at), BadWord(), NoLetter(), NoTest(), BadRaise(at),
BadNames(), BadProgram(name, place, what), NoProcedure(name), BadPlace(), BadChoices(at),
BadFuel(), BadMost(), TooMany(most), BadStep(), OtherAlphabet(), BadEntry(), BadResults(),
BadOrder(), BadPicks(), BadTreatment(), BadCalls(at), BadUnit(at), BadEdit(at, what),
NothingBack(), TooLarge(most), NotTold(word), NoCouple(), BadSteps(at), StillLies(),
NoLeast(step, word), BadPool(at), Unfit(what), NoNeed(place), NoAlarm(place), BadDeed(),
BadStory(at), BadStoryText(line)"""


def listed():
    names = {}
    for part in LISTED.replace("\n", " ").split("), "):
        name, attributes = part.rstrip(")").split("(")
        names[name.strip()] = [word.strip() for word in attributes.split(",") if word.strip()]
    return names


class ErrorsTest(unittest.TestCase):
    def test_all_45_stand_there_and_no_others(self):
        names = listed()
        self.assertEqual(len(names), 45)
        classes = {name for name, thing in vars(errors).items() if inspect.isclass(thing)}
        self.assertEqual(classes, set(names) | {"BookError"})

    def test_each_stands_straight_under_book_error(self):
        self.assertEqual(errors.BookError.__bases__, (ValueError,))
        for name in listed():
            error = getattr(errors, name)
            self.assertEqual(error.__bases__, (errors.BookError,), name)
            self.assertEqual(error.__module__, "truebooks.errors")

    def test_attributes_in_the_told_order_unchecked(self):
        for name, attributes in listed().items():
            given = [object() for _ in attributes]
            error = getattr(errors, name)(*given)
            self.assertEqual([getattr(error, word) for word in attributes], given, name)
            self.assertEqual(list(vars(error)), attributes, name)

    def test_they_are_caught_as_value_errors(self):
        with self.assertRaises(ValueError):
            raise errors.BadProgram("p", 3, "row")
        with self.assertRaises(errors.BookError):
            raise errors.BadLetter()


if __name__ == "__main__":
    unittest.main()
