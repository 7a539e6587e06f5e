"""Lots: sets of integers that are periodic far above and far below zero."""

from math import gcd, lcm

from truebooks.basics import is_sequence, is_whole, is_whole_from
from truebooks.errors import BadLot, TooLong

FARTHEST = 20000
MOST_MODULUS = 10080
# Couples (in the one lot, in the other lot) of the numbers that are taken.
IN_EITHER = ((True, True), (True, False), (False, True))
IN_BOTH = ((True, True),)
IN_FIRST_ALONE = ((True, False),)


class Lot:
    """A set of integers, told by a core and by remainders above and below it."""

    def __init__(self, low, high, inside, modulus, ups, downs):
        self.low = low
        self.high = high
        self.inside = tuple(inside)
        self.modulus = modulus
        self.ups = tuple(ups)
        self.downs = tuple(downs)

    def __eq__(self, other):
        return (isinstance(other, Lot) and self.low == other.low and self.high == other.high
                and self.inside == other.inside and self.modulus == other.modulus
                and self.ups == other.ups and self.downs == other.downs)

    def __contains__(self, number):
        if number > self.high:
            return number % self.modulus in self.ups
        if number < self.low:
            return number % self.modulus in self.downs
        return number in self.inside

    @property
    def bare(self):
        """True exactly for the lot without numbers."""
        return not self.inside and not self.ups and not self.downs


def make_lot(low, high, inside, modulus, ups, downs):
    """Return the lot of a description, in its one form, or raise BadLot or TooLong."""
    _check_core(low, high)
    if not _are_unlike_from(inside, low, high):
        raise BadLot("inside")
    if not is_whole_from(modulus, 1, MOST_MODULUS):
        raise BadLot("modulus")
    if not _are_unlike_from(ups, 0, modulus - 1):
        raise BadLot("ups")
    if not _are_unlike_from(downs, 0, modulus - 1):
        raise BadLot("downs")
    return _lot_of(low, high, inside, modulus, ups, downs)


def _check_core(low, high):
    if not is_whole(low) or not is_whole(high):
        raise BadLot("core")
    if low < -FARTHEST or high > FARTHEST or low > high + 1:
        raise BadLot("core")


def _are_unlike_from(numbers, low, high):
    if not is_sequence(numbers):
        return False
    seen = {}
    for number in numbers:
        if not is_whole_from(number, low, high) or number in seen:
            return False
        seen[number] = True
    return True


def _lot_of(low, high, inside, modulus, ups, downs):
    """Return the lot of a right description, in its one form, or raise TooLong."""
    ups_flags = _flags(0, modulus - 1, ups)
    downs_flags = _flags(0, modulus - 1, downs)
    core = _flags(low, high, inside)
    modulus = _least_modulus(ups_flags, downs_flags)
    ups_flags = ups_flags[:modulus]
    downs_flags = downs_flags[:modulus]
    top = _greatest_wrong(low, core, ups_flags, downs_flags)
    if top is None:
        bottom, top = 0, -1
    else:
        bottom = min(_least_wrong(low, core, ups_flags, downs_flags), top + 1)
    if bottom < -FARTHEST or top > FARTHEST:
        raise TooLong(FARTHEST)
    # Where the new core is not empty, it lies within the core of the description.
    inside = [number for number in range(bottom, top + 1) if core[number - low]]
    return Lot(bottom, top, inside, modulus, _places_of(ups_flags), _places_of(downs_flags))


def _flags(low, high, numbers):
    """Return for each number from low to high whether it is one of numbers."""
    flags = [False] * (high - low + 1)
    for number in numbers:
        flags[number - low] = True
    return flags


def _places_of(flags):
    return [place for place, told in enumerate(flags) if told]


def _least_modulus(ups, downs):
    """Return the least length by which both rows of flags repeat themselves."""
    many = len(ups)
    for length in range(1, many):
        if many % length == 0 and _repeats(ups, length) and _repeats(downs, length):
            return length
    return many


def _repeats(flags, length):
    return flags[length:] == flags[:-length]


def _greatest_wrong(low, core, ups, downs):
    """Return the greatest number that ups tells wrongly, or None."""
    many = len(ups)
    for at in range(len(core) - 1, -1, -1):
        if core[at] != ups[(low + at) % many]:
            return low + at
    for number in range(low - 1, low - 1 - many, -1):
        if downs[number % many] != ups[number % many]:
            return number
    return None


def _least_wrong(low, core, ups, downs):
    """Return the least number that downs tells wrongly, where there is one."""
    many = len(downs)
    for at, told in enumerate(core):
        if told != downs[(low + at) % many]:
            return low + at
    number = low + len(core)
    while ups[number % many] == downs[number % many]:
        number += 1
    return number


def empty_lot():
    """Return the lot without numbers."""
    return Lot(0, -1, (), 1, (), ())


def whole_lot():
    """Return the lot of all integers."""
    return Lot(0, -1, (), 1, (0,), (0,))


def just_lot(numbers):
    """Return the lot of just these numbers."""
    if not numbers:
        return empty_lot()
    return _lot_of(min(numbers), max(numbers), numbers, 1, (), ())


def range_lot(low, high):
    """Return the lot from low to high; None is for no end on that side."""
    if low is None and high is None:
        return whole_lot()
    if low is None:
        return _lot_of(high + 1, high, (), 1, (), (0,))
    if high is None:
        return _lot_of(low, low - 1, (), 1, (0,), ())
    if low > high:
        return empty_lot()
    return _lot_of(low, high, list(range(low, high + 1)), 1, (), ())


def either_lot(one, other):
    """Return the lot of the numbers that are in at least one of two lots."""
    return _put_together(one, other, IN_EITHER)


def both_lot(one, other):
    """Return the lot of the numbers that are in both lots."""
    return _put_together(one, other, IN_BOTH)


def less_lot(one, other):
    """Return the lot of the numbers of the first that are not in the second."""
    return _put_together(one, other, IN_FIRST_ALONE)


def _put_together(one, other, taken):
    modulus = _common_modulus(one, other)
    low = min(one.low, other.low)
    high = max(one.high, other.high)
    core = list(zip(lot_flags(one, low, high), lot_flags(other, low, high)))
    inside = [low + at for at, told in enumerate(core) if told in taken]
    ups = _rests_together(modulus, (one.modulus, one.ups), (other.modulus, other.ups), taken)
    downs = _rests_together(modulus, (one.modulus, one.downs), (other.modulus, other.downs), taken)
    return _lot_of(low, high, inside, modulus, ups, downs)


def _common_modulus(one, other):
    modulus = lcm(one.modulus, other.modulus)
    if modulus > MOST_MODULUS:
        raise TooLong(MOST_MODULUS)
    return modulus


def _rests_together(modulus, one, other, taken):
    """Return the remainders that are taken of two sides (modulus, remainders)."""
    first = _flags(0, one[0] - 1, one[1])
    second = _flags(0, other[0] - 1, other[1])
    return [n for n in range(modulus) if (first[n % one[0]], second[n % other[0]]) in taken]


def lot_flags(lot, low, high):
    """Return for each number from low to high whether it is in the lot."""
    downs = _flags(0, lot.modulus - 1, lot.downs)
    ups = _flags(0, lot.modulus - 1, lot.ups)
    held = {number: True for number in lot.inside}
    flags = [downs[n % lot.modulus] for n in range(low, min(high, lot.low - 1) + 1)]
    flags.extend([n in held for n in range(max(low, lot.low), min(high, lot.high) + 1)])
    flags.extend([ups[n % lot.modulus] for n in range(max(low, lot.high + 1), high + 1)])
    return flags


def moved_lot(lot, by):
    """Return the lot with each number plus by."""
    inside = [number + by for number in lot.inside]
    ups = [(rest + by) % lot.modulus for rest in lot.ups]
    downs = [(rest + by) % lot.modulus for rest in lot.downs]
    return _lot_of(lot.low + by, lot.high + by, inside, lot.modulus, ups, downs)


def turned_lot(lot):
    """Return the lot of the negatives of the numbers."""
    inside = [-number for number in lot.inside]
    ups = [-rest % lot.modulus for rest in lot.downs]
    downs = [-rest % lot.modulus for rest in lot.ups]
    return _lot_of(-lot.high, -lot.low, inside, lot.modulus, ups, downs)


def rest_lot(lot, many):
    """Return the lot of the remainders modulo many of all numbers of the lot."""
    # Numbers far out with one remainder have all those that agree with it up to this.
    step = gcd(lot.modulus, many)
    rests = {number % many: True for number in lot.inside}
    for rest in lot.ups + lot.downs:
        for place in range(rest % step, many, step):
            rests[place] = True
    return just_lot(sorted(rests))


def within(one, other):
    """Return None, or the least number by size that only the first lot has."""
    reach = max([abs(end) for end in (one.low, one.high, other.low, other.high)])
    reach += _common_modulus(one, other)
    held = lot_flags(other, -reach, reach)
    missing = [told and not held[at] for at, told in enumerate(lot_flags(one, -reach, reach))]
    return least_by_size(missing)


def least_by_size(flags):
    """Return the least number by size that is told, or None; zero is in the middle."""
    middle = len(flags) // 2
    for size in range(middle + 1):
        if flags[middle - size]:
            return -size
        if flags[middle + size]:
            return size
    return None


def lot_members(lot, low, high):
    """Return the ascending tuple of the lot's numbers from low to high."""
    if low > high:
        return ()
    return tuple([low + at for at in _places_of(lot_flags(lot, low, high))])
