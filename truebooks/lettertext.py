"""Letters and tests as texts."""

from truebooks.basics import plain_numbers
from truebooks.errors import BadText
from truebooks.letters import check_letter, check_test

# Couples of a word and of how many numbers stand behind it.
LETTER_FORMS = (("set", 1), ("add", 1), ("turn", 0), ("mod", 1))
TEST_FORMS = (("below", 1), ("is", 1), ("rest", 2))


def write_letter(letter):
    """Return the text of a letter."""
    return _written(letter)


def write_test(test):
    """Return the text of a test."""
    return _written(test)


def _written(item):
    return " ".join([str(part) for part in item])


def letter_of_words(words):
    """Return the letter that words tell, its number in or out of range, or None."""
    return _item_of_words(words, LETTER_FORMS)


def test_of_words(words):
    """Return the test that words tell, its numbers in or out of range, or None."""
    return _item_of_words(words, TEST_FORMS)


def _item_of_words(words, forms):
    if not words or (words[0], len(words) - 1) not in forms:
        return None
    numbers = plain_numbers(words[1:])
    if numbers is None:
        return None
    return (words[0], *numbers)


def read_letter(text):
    """Return the letter of a text, or raise BadText or BadLetter."""
    letter = _read_item(text, LETTER_FORMS)
    return check_letter(letter)


def read_test(text):
    """Return the test of a text, or raise BadText or BadTest."""
    test = _read_item(text, TEST_FORMS)
    return check_test(test)


def _read_item(text, forms):
    item = _item_of_words(text.split(" "), forms) if isinstance(text, str) else None
    if item is None:
        raise BadText(1, "line")
    return item
