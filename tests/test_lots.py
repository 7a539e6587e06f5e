"""Lots [1.1] to [1.8]."""

import random
import unittest
from math import lcm

from support import error_of, evens, odds
from truebooks.lots import (
    Lot, both_lot, either_lot, empty_lot, just_lot, less_lot, lot_members, make_lot, moved_lot,
    range_lot, rest_lot, turned_lot, whole_lot, within,
)

FAR = 10 ** 30


def parts(lot):
    return (lot.low, lot.high, lot.inside, lot.modulus, lot.ups, lot.downs)


def told(description, number):
    """What [1.1] says of a number and a description."""
    low, high, inside, modulus, ups, downs = description
    if number > high:
        return number % modulus in ups
    if number < low:
        return number % modulus in downs
    return number in inside


def form(member, far, period):
    """The one form [1.2] of what member tells, periodic by period beyond far."""
    above = range(far + 1, far + 1 + period)
    below = range(-far - period, -far)
    for modulus in range(1, period + 1):
        if all(member(n) == member(n + modulus) for n in above):
            if all(member(n) == member(n - modulus) for n in below):
                break
    ups = {n % modulus for n in above if member(n)}
    downs = {n % modulus for n in below if member(n)}
    window = range(-far - 2 * period, far + 2 * period + 1)
    wrong_ups = [n for n in window if member(n) != (n % modulus in ups)]
    if not wrong_ups:
        return (0, -1, (), modulus, tuple(sorted(ups)), tuple(sorted(downs)))
    high = max(wrong_ups)
    low = min([n for n in window if member(n) != (n % modulus in downs)] + [high + 1])
    inside = tuple(n for n in range(low, high + 1) if member(n))
    return (low, high, inside, modulus, tuple(sorted(ups)), tuple(sorted(downs)))


def random_description(rng, most=12, far=15):
    modulus = rng.randint(1, most)
    low = rng.randint(-far, far)
    high = rng.randint(low - 1, far)
    inside = [n for n in range(low, high + 1) if rng.random() < 0.5]
    rng.shuffle(inside)
    ups = [n for n in range(modulus) if rng.random() < 0.4]
    downs = [n for n in range(modulus) if rng.random() < 0.4] if rng.random() < 0.6 else list(ups)
    rng.shuffle(ups)
    return (low, high, inside, modulus, ups, downs)


class FormTest(unittest.TestCase):
    def test_the_example_of_the_document(self):
        lot = make_lot(0, 0, [0], 2, [0], [])
        self.assertEqual(parts(lot), (-1, -2, (), 2, (0,), ()))
        self.assertEqual(parts(either_lot(lot, just_lot([-3]))), (-3, -2, (-3,), 2, (0,), ()))

    def test_an_empty_core_and_lots_told_by_ups_alone(self):
        self.assertEqual(parts(make_lot(7, 6, [], 4, [0, 2], [2, 0])), (0, -1, (), 2, (0,), (0,)))
        self.assertEqual(parts(make_lot(5, 7, [6], 2, (0,), (0,))), (0, -1, (), 2, (0,), (0,)))
        self.assertEqual(parts(range_lot(0, None)), (0, -1, (), 1, (0,), ()))
        self.assertEqual(parts(range_lot(None, 4)), (5, 4, (), 1, (), (0,)))

    def test_the_least_modulus_serves_both_sides_together(self):
        self.assertEqual(make_lot(0, 0, [], 12, [0, 3, 6, 9], [0, 2, 4, 6, 8, 10]).modulus, 6)
        self.assertEqual(make_lot(0, 0, [], 12, [0, 3, 6, 9], [0, 3, 6, 9]).modulus, 3)
        self.assertEqual(make_lot(0, 0, [], 12, [0, 3, 6, 9], [1]).modulus, 12)
        self.assertEqual(make_lot(0, 0, [0], 12, [], []).modulus, 1)
        self.assertEqual(make_lot(0, 0, [0], 12, list(range(12)), []).modulus, 1)

    def test_random_descriptions_have_the_one_form(self):
        rng = random.Random(11)
        for _ in range(300):
            description = random_description(rng)
            lot = make_lot(*description)
            want = form(lambda n: told(description, n), 16, description[3])
            self.assertEqual(parts(lot), want, description)
            for number in range(-60, 61):
                self.assertEqual(number in lot, told(description, number))
            self.assertEqual(make_lot(*parts(lot)), lot)

    def test_numbers_of_any_size(self):
        lot = make_lot(0, 3, [1], 7, [3], [5])
        self.assertEqual(FAR in lot, FAR % 7 == 3)
        self.assertTrue(7 * FAR + 3 in lot)
        self.assertFalse(7 * FAR + 5 in lot)
        self.assertTrue(-7 * FAR + 5 in lot)
        self.assertFalse(-7 * FAR + 3 in lot)
        self.assertTrue(-1 in make_lot(0, -1, (), 3, [2], [2]))

    def test_the_class_keeps_what_it_is_given(self):
        lot = Lot(1, 2, [2, 1], 3, [2], [])
        self.assertEqual(parts(lot), (1, 2, (2, 1), 3, (2,), ()))
        self.assertEqual(lot, Lot(1, 2, (2, 1), 3, (2,), ()))
        self.assertNotEqual(lot, Lot(1, 2, (1, 2), 3, (2,), ()))
        self.assertNotEqual(lot, (1, 2, (2, 1), 3, (2,), ()))
        for at in range(6):
            other = [1, 2, (2, 1), 3, (2,), ()]
            other[at] = (0,) if at in (2, 4, 5) else 9
            self.assertNotEqual(lot, Lot(*other))

    def test_bare(self):
        self.assertIs(empty_lot().bare, True)
        for lot in (whole_lot(), just_lot([4]), range_lot(None, -3), range_lot(9, None)):
            self.assertIs(lot.bare, False)
        self.assertIs(less_lot(evens(), evens()).bare, True)


class MakeLotTest(unittest.TestCase):
    def fault(self, *description):
        return error_of(make_lot, *description)

    def test_core(self):
        good = ([], 1, [], [])
        for low, high in ((True, 3), (0, False), (0, None), ("0", 1), (0.0, 1), (-20001, 0),
                          (0, 20001), (2, 0), (20002, 20001)):
            self.assertEqual(self.fault(low, high, *good), ("BadLot", "core"), (low, high))
        for low, high in ((-20000, 20000), (-20000, -20001), (20001, 20000), (1, 0)):
            self.assertIsNone(self.fault(low, high, *good), (low, high))

    def test_inside(self):
        for inside in (None, "", {0}, {}, [0, 0], [-1], [4], [True], [1.0], ["0"], [[0]], 5):
            self.assertEqual(self.fault(0, 3, inside, 1, [], []), ("BadLot", "inside"), inside)
        self.assertEqual(make_lot(0, 3, (3, 0), 1, [], []), make_lot(0, 3, [0, 3], 1, [], []))

    def test_modulus(self):
        for modulus in (0, -1, 10081, True, None, 2.0, "2"):
            fault = self.fault(0, 3, [], modulus, [], [])
            self.assertEqual(fault, ("BadLot", "modulus"), modulus)
        self.assertIsNone(self.fault(0, 3, [], 10080, [10079], []))

    def test_ups_and_downs(self):
        for rests in (None, [0, 0], [-1], [5], [True], ["1"], [None], "01"):
            self.assertEqual(self.fault(0, 3, [], 5, rests, []), ("BadLot", "ups"), rests)
            self.assertEqual(self.fault(0, 3, [], 5, [], rests), ("BadLot", "downs"), rests)
        self.assertIsNone(self.fault(0, 3, [], 5, (4, 0), [3, 1]))

    def test_several_faults_are_told_in_order(self):
        bad = [(True, 3), [9], 0, [7], [7]]
        good = [(0, 3), [1], 5, [1], [1]]
        words = ["core", "inside", "modulus", "ups", "downs"]
        for at, word in enumerate(words):
            mixed = good[:at] + bad[at:]
            self.assertEqual(self.fault(*mixed[0], *mixed[1:]), ("BadLot", word))
        # TooLong comes behind all others.
        self.assertEqual(self.fault(-20000, -20000, [], 2, [0], [5]), ("BadLot", "downs"))

    def test_too_long_in_the_one_form(self):
        self.assertEqual(self.fault(-20000, -20000, [-20000], 2, [0], []), ("TooLong", 20000))
        self.assertEqual(self.fault(20000, 20000, [20000], 2, [], [0]), None)
        self.assertEqual(parts(make_lot(20000, 20000, [], 2, [], [0]))[:2], (19999, 19998))
        self.assertIsNone(self.fault(-20000, 20000, [-20000, 20000], 10080, [], []))

    def test_what_is_passed_in_stays(self):
        inside, ups, downs = [3, 1], [1, 0], [2]
        lot = make_lot(0, 3, inside, 3, ups, downs)
        self.assertEqual((inside, ups, downs), ([3, 1], [1, 0], [2]))
        inside.append(2)
        ups.clear()
        self.assertEqual(lot, make_lot(0, 3, [1, 3], 3, [0, 1], [2]))
        self.assertIsInstance(lot.inside, tuple)
        self.assertIsInstance(lot.ups, tuple)
        self.assertIsInstance(lot.downs, tuple)


class SmallMakersTest(unittest.TestCase):
    def test_empty_and_whole(self):
        self.assertEqual(parts(empty_lot()), (0, -1, (), 1, (), ()))
        self.assertEqual(parts(whole_lot()), (0, -1, (), 1, (0,), (0,)))

    def test_just(self):
        self.assertEqual(parts(just_lot([4, -2, 4])), (-2, 4, (-2, 4), 1, (), ()))
        self.assertEqual(just_lot(()), empty_lot())
        self.assertEqual(just_lot([-20000, 20000]).low, -20000)
        self.assertEqual(error_of(just_lot, [20001]), ("TooLong", 20000))
        self.assertEqual(error_of(just_lot, [-20001]), ("TooLong", 20000))

    def test_range(self):
        self.assertEqual(parts(range_lot(-1, 2)), (-1, 2, (-1, 0, 1, 2), 1, (), ()))
        self.assertEqual(range_lot(3, 2), empty_lot())
        self.assertEqual(range_lot(3, -5), empty_lot())
        self.assertEqual(range_lot(None, None), whole_lot())
        self.assertEqual(parts(range_lot(-20000, None)), (-20000, -20001, (), 1, (0,), ()))
        self.assertEqual(parts(range_lot(None, 20000)), (20001, 20000, (), 1, (), (0,)))
        self.assertEqual(parts(range_lot(20000, None)), (20000, 19999, (), 1, (0,), ()))
        self.assertEqual(parts(range_lot(None, -20000)), (-19999, -20000, (), 1, (), (0,)))
        self.assertEqual(error_of(range_lot, None, 20001), ("TooLong", 20000))
        self.assertEqual(error_of(range_lot, -20001, None), ("TooLong", 20000))


class TogetherTest(unittest.TestCase):
    def test_random_lots(self):
        rng = random.Random(12)
        for _ in range(150):
            one = make_lot(*random_description(rng, 6))
            other = make_lot(*random_description(rng, 6))
            period = lcm(one.modulus, other.modulus)
            cases = ((either_lot, lambda n: n in one or n in other),
                     (both_lot, lambda n: n in one and n in other),
                     (less_lot, lambda n: n in one and n not in other))
            for function, member in cases:
                self.assertEqual(parts(function(one, other)), form(member, 40, period))

    def test_one_lot_moved_turned_and_by_rests(self):
        rng = random.Random(13)
        for _ in range(200):
            lot = make_lot(*random_description(rng))
            by = rng.randint(-20, 20)
            moved = form(lambda n: n - by in lot, 50, lot.modulus)
            self.assertEqual(parts(moved_lot(lot, by)), moved)
            turned = form(lambda n: -n in lot, 50, lot.modulus)
            self.assertEqual(parts(turned_lot(lot)), turned)
            many = rng.randint(1, 60)
            rests = {n % many for n in range(-1600, 1600) if n in lot}
            self.assertEqual(rest_lot(lot, many), just_lot(sorted(rests)))

    def test_far_moves(self):
        self.assertEqual(moved_lot(evens(), FAR + 1), odds())
        self.assertEqual(moved_lot(whole_lot(), -FAR), whole_lot())
        self.assertEqual(moved_lot(empty_lot(), FAR), empty_lot())
        self.assertEqual(error_of(moved_lot, just_lot([3]), FAR), ("TooLong", 20000))
        self.assertEqual(moved_lot(just_lot([19999]), 1), just_lot([20000]))
        self.assertEqual(error_of(moved_lot, just_lot([19999]), 2), ("TooLong", 20000))
        self.assertEqual(moved_lot(just_lot([-19999]), -1), just_lot([-20000]))
        self.assertEqual(error_of(moved_lot, just_lot([-19999]), -2), ("TooLong", 20000))

    def test_turning_past_the_bounds(self):
        self.assertEqual(error_of(turned_lot, make_lot(20000, 20000, [20000], 2, [], [0])),
                         ("TooLong", 20000))
        self.assertEqual(turned_lot(range_lot(None, 20000)), range_lot(-20000, None))

    def test_rest_lot_raises_nothing(self):
        lot = make_lot(-20000, 20000, [-20000, 19999], 10079, [5], [])
        self.assertEqual(lot_members(rest_lot(lot, 60), 0, 59), tuple(range(60)))
        self.assertEqual(rest_lot(just_lot([-1]), 60), just_lot([59]))
        self.assertEqual(rest_lot(make_lot(0, -1, (), 4, [1], []), 6), just_lot([1, 3, 5]))
        self.assertEqual(rest_lot(empty_lot(), 1), empty_lot())
        self.assertEqual(rest_lot(whole_lot(), 1), just_lot([0]))

    def test_too_long_by_the_moduli_alone(self):
        one = make_lot(0, -1, (), 101, [0], [0])
        other = make_lot(0, -1, (), 100, [0], [0])
        for function in (either_lot, both_lot, less_lot, within):
            self.assertEqual(error_of(function, one, other), ("TooLong", 10080))
        # The result would be short.
        far = make_lot(0, 0, [0], 101, [], [3])
        self.assertEqual(error_of(both_lot, far, make_lot(0, -1, (), 100, [1], [])),
                         ("TooLong", 10080))
        good = make_lot(0, -1, (), 96, [0], [0])
        self.assertEqual(both_lot(good, make_lot(0, -1, (), 105, [0], [0])).modulus, 3360)
        self.assertEqual(both_lot(make_lot(0, -1, (), 32, [0], [0]),
                                  make_lot(0, -1, (), 315, [0], [0])).modulus, 10080)
        self.assertEqual(both_lot(empty_lot(), make_lot(0, -1, (), 10079, [0], [])), empty_lot())

    def test_too_long_by_the_result(self):
        up = range_lot(-20000, None)
        # The odd numbers from -19999 have a high of -20001, those divisible by 7 one lower.
        self.assertEqual(parts(less_lot(up, evens())), (-20000, -20001, (), 2, (1,), ()))
        sevens = make_lot(0, -1, (), 7, [0], [0])
        self.assertEqual(error_of(both_lot, up, sevens), ("TooLong", 20000))
        self.assertEqual(error_of(either_lot, up, sevens), None)
        self.assertEqual(error_of(less_lot, evens(), range_lot(-19999, None)), None)
        self.assertEqual(error_of(less_lot, range_lot(-20000, None), odds()), ("TooLong", 20000))


class WithinTest(unittest.TestCase):
    def test_random_lots(self):
        rng = random.Random(14)
        by_size = sorted(range(-120, 121), key=lambda n: (abs(n), n))
        for _ in range(200):
            one = make_lot(*random_description(rng, 6))
            other = make_lot(*random_description(rng, 6))
            if rng.random() < 0.4:
                other = either_lot(one, other)
            want = [n for n in by_size if n in one and n not in other]
            self.assertEqual(within(one, other), want[0] if want else None)

    def test_the_negative_number_first(self):
        self.assertEqual(within(just_lot([5, -5]), empty_lot()), -5)
        self.assertEqual(within(just_lot([5, -6]), empty_lot()), 5)
        self.assertEqual(within(whole_lot(), just_lot([0, -1])), 1)
        self.assertEqual(within(whole_lot(), empty_lot()), 0)
        self.assertIsNone(within(empty_lot(), empty_lot()))
        self.assertEqual(within(just_lot([20000, -20000]), range_lot(0, 20000)), -20000)
        rare = make_lot(0, -1, (), 10080, [5000], [5000])
        self.assertEqual(within(rare, range_lot(-5079, 5000)), -5080)

    def test_members(self):
        rng = random.Random(15)
        for _ in range(60):
            lot = make_lot(*random_description(rng))
            low = rng.randint(-40, 40)
            high = rng.randint(low - 2, 40)
            want = tuple(n for n in range(low, high + 1) if n in lot)
            self.assertEqual(lot_members(lot, low, high), want)
        self.assertEqual(lot_members(whole_lot(), 3, 2), ())
        self.assertEqual(lot_members(evens(), 100000, 100000), (100000,))
        self.assertEqual(len(lot_members(evens(), -100000, 100000)), 100001)


if __name__ == "__main__":
    unittest.main()
