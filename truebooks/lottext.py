"""Lots as lines of text."""

from truebooks.basics import plain_numbers
from truebooks.errors import BadText
from truebooks.lots import make_lot


def write_lot(lot):
    """Return the line of a lot."""
    words = [lot.low, lot.high, lot.modulus, "inside", *lot.inside, "ups", *lot.ups,
             "downs", *lot.downs]
    return " ".join([str(word) for word in words])


def description_of_words(words):
    """Return the description that words tell (make_lot's arguments), or None."""
    if words[3:4] != ["inside"] or words.count("ups") != 1 or words.count("downs") != 1:
        return None
    ups_at = words.index("ups")
    downs_at = words.index("downs")
    if not 3 < ups_at < downs_at:
        return None
    ends = plain_numbers(words[:3])
    inside = plain_numbers(words[4:ups_at])
    ups = plain_numbers(words[ups_at + 1:downs_at])
    downs = plain_numbers(words[downs_at + 1:])
    if ends is None or inside is None or ups is None or downs is None:
        return None
    return (ends[0], ends[1], inside, ends[2], ups, downs)


def read_lot(text):
    """Return the lot of a line, or raise BadText or what make_lot raises."""
    description = description_of_words(text.split(" ")) if isinstance(text, str) else None
    if description is None:
        raise BadText(1, "line")
    return make_lot(*description)
