"""Small questions that many files ask of what they are passed."""

DIGITS = "0123456789"
MOST_DIGITS = 6
FEW_BITS = 16


def is_whole(thing):
    """Tell whether a thing is an integer: an int that is no bool."""
    return isinstance(thing, int) and not isinstance(thing, bool)


def is_whole_from(thing, low, high):
    """Tell whether a thing is an integer from low to high."""
    return is_whole(thing) and low <= thing <= high


def is_sequence(thing):
    """Tell whether a thing is a list or a tuple."""
    return isinstance(thing, (list, tuple))


def is_sequence_of(thing, many):
    """Tell whether a thing is a list or a tuple with that many entries."""
    return is_sequence(thing) and len(thing) == many


def plain_number(word):
    """Return the integer that a word writes plainly, or None."""
    digits = word[1:] if word.startswith("-") else word
    if not 1 <= len(digits) <= MOST_DIGITS:
        return None
    if any([digit not in DIGITS for digit in digits]):
        return None
    if digits.startswith("0") and word != "0":
        return None
    return int(word)


def plain_numbers(words):
    """Return the integers that words write plainly, or None if one does not."""
    numbers = [plain_number(word) for word in words]
    if None in numbers:
        return None
    return numbers


def text_lines(text):
    """Return the lines of a text that ends each with a line feed, or None."""
    if not isinstance(text, str):
        return None
    lines = text.split("\n")
    if lines.pop() != "":
        return None
    return lines


def text_of_lines(lines):
    """Return the text of lines, each with its line feed."""
    return "".join([line + "\n" for line in lines])


def bits_of(mask):
    """Return the ascending places of the bits of a mask."""
    places = []
    while mask and len(places) < FEW_BITS:
        places.append(lowest_bit(mask))
        mask &= mask - 1
    # The digits of a number are soon made, and soon searched for many bits.
    bits = f"{mask:b}" if mask else ""
    bits = bits[::-1]
    at = bits.find("1")
    while at >= 0:
        places.append(at)
        at = bits.find("1", at + 1)
    return places


def lowest_bit(mask):
    """Return the place of the lowest bit of a mask that is not 0."""
    return (mask & -mask).bit_length() - 1
