"""Reached numbers, runs and lots that hold them [2.8] to [2.10]."""

import random
import time
import unittest

from support import (
    add, beside, error_of, evens, met_couples, odds, random_machine, random_move, rings, two_rings,
)
from truebooks.heights import rooms_by_height
from truebooks.lots import (
    Lot, both_lot, empty_lot, just_lot, less_lot, lot_members, make_lot, range_lot, whole_lot,
    within,
)
from truebooks.numbermachine import Machine, move_number
from truebooks.reach import keeps_fault, number_run, reach, run_fault

EXAMPLE = Machine(2, [(0, 0)], [(0, add(1), 1), (1, add(1), 0)])


def led_out(machine, lots, far):
    """What [2.10] says, looking at the numbers from -far to far alone."""
    for index, (station, number) in enumerate(machine.starts):
        if number not in lots[station]:
            return ("start", index, number)
    by_size = sorted(range(-far, far + 1), key=lambda n: (abs(n), n))
    for index, (origin, move, target) in enumerate(machine.arrows):
        for number in by_size:
            if number in lots[origin]:
                after = move_number(move, number)
                if after is not None and after not in lots[target]:
                    return ("arrow", index, number)
    return None


class ReachTest(unittest.TestCase):
    def test_the_example_of_the_document(self):
        self.assertEqual(reach(EXAMPLE), (both_lot(evens(), range_lot(0, None)),
                                          both_lot(odds(), range_lot(1, None))))

    def test_random_machines(self):
        for seed in range(300):
            machine = random_machine(seed)
            lots = reach(machine)
            self.assertIsNone(keeps_fault(machine, lots))
            couples = met_couples(machine, machine.rim + machine.block * 80 + 300)
            for station, lot in enumerate(lots):
                self.assertIsInstance(lot, Lot)
                want = sorted(n for place, n in couples if place == station and abs(n) <= 80)
                self.assertEqual(lot_members(lot, -80, 80), tuple(want), (seed, station))

    def test_nothing_is_met(self):
        self.assertEqual(reach(Machine(2, [], [(0, add(1), 1)])), (empty_lot(), empty_lot()))
        self.assertEqual(reach(Machine(2, [(1, -7)], [])), (empty_lot(), just_lot([-7])))

    def test_far_from_the_core(self):
        machine = Machine(1, [(0, 1000), (0, -1000)], [(0, add(20), 0), (0, add(-3), 0)])
        lots = reach(machine)
        self.assertEqual(lots, (whole_lot(),))
        self.assertTrue(10 ** 30 in lots[0])

    def test_jumps_from_rooms_that_are_met_high_alone(self):
        arrows = [(at, add(3), at + 1) for at in range(5)]
        arrows.extend([(5, ("deed", ("set", -2)), 6), (5, ("deed", ("mod", 4)), 6)])
        lots = reach(Machine(7, [(0, 0)], arrows))
        self.assertEqual(lots[5:], (just_lot([15]), just_lot([-2, 3])))

    def test_the_errors_and_their_order(self):
        self.assertEqual(error_of(reach, rings([23, 29, 3])), ("TooLong", 2000))
        # 504 rows of a block of 20 are 10,080 numbers; 505 are too many.
        lots = reach(rings([7, 8, 9], 20))
        self.assertEqual([lots[0].modulus, lots[7].modulus, lots[15].modulus], [140, 160, 180])
        self.assertEqual(error_of(reach, rings([5, 101], 20)), ("TooLong", 10080))
        self.assertEqual(error_of(reach, rings([8, 3, 25], 20)), ("TooLong", 10080))
        # Both 2,000 and 10,080 would be passed: 2,000 comes first.
        self.assertEqual(error_of(reach, rings([8, 27, 25], 20)), ("TooLong", 2000))

    def late_machine(self, length, by, start):
        """A way of so many stations that add, and no ring: again is high."""
        arrows = [(at, add(by), at + 1) for at in range(length)]
        return Machine(length + 1, [(0, start)], arrows)

    def test_a_way_that_ends(self):
        machine = self.late_machine(150, 20, 1000)
        lots = reach(machine)
        self.assertEqual(lots[150], just_lot([4000]))
        self.assertEqual(lots[0], just_lot([1000]))

    def test_rows_that_come_round_high(self):
        machine = self.two_phase(34, 33)
        lots = reach(machine)
        couples = met_couples(machine, 4500)
        for station in range(0, machine.stations, 13):
            want = sorted(n for place, n in couples if place == station and 0 <= n <= 4200)
            self.assertEqual(lot_members(lots[station], 0, 4200), tuple(want))

    def two_phase(self, one, other):
        """A station with two rings back to it: numbers one * i + other * j, i and j from 0."""
        arrows = []
        last = one - 1
        arrows.extend([(at, add(1), (at + 1) % one) for at in range(one)])
        path = [0, *range(last + 1, last + other), 0]
        arrows.extend([(path[at], add(1), path[at + 1]) for at in range(other)])
        return Machine(one + other - 1, [(0, 0)], arrows)

    def test_too_long_for_far_rows(self):
        self.assertEqual(error_of(reach, self.two_phase(60, 59)), ("TooLong", 2000))
        # With steps of 20 and rings of 32 and 31 rows come round from height 960 on.
        machine = self.two_phase(32, 31)
        arrows = [(origin, add(20), target) for origin, _, target in machine.arrows]
        for start, fault in ((20, None), (800, None), (801, ("TooLong", 20000))):
            far = Machine(machine.stations, [(0, start)], arrows)
            self.assertEqual(error_of(reach, far), fault, start)
        self.assertEqual(rooms_by_height(far).again, 960)
        # Where both 10,080 and 20,000 would be passed, 10,080 comes first.
        both = beside(far, rings([5, 101], 20))
        self.assertEqual(error_of(reach, both), ("TooLong", 10080))
        self.assertEqual(error_of(reach, beside(far, rings([7, 8, 9], 20))), ("TooLong", 20000))

    def test_machines_of_the_greatest_size(self):
        rng = random.Random(41)
        starts = [(rng.randrange(200), rng.randint(-1000, 1000)) for _ in range(60)]
        arrows = [(rng.randrange(200), random_move(rng, 20, 6), rng.randrange(200))
                  for _ in range(4000)]
        machine = Machine(200, starts, arrows)
        before = time.perf_counter()
        lots = reach(machine)
        self.assertIsNone(keeps_fault(machine, lots))
        run = number_run(machine, 7, 10000)
        self.assertIsNone(run_fault(machine, 7, 10000, run))
        self.assertLess(time.perf_counter() - before, 120)


class RunsTest(unittest.TestCase):
    def test_the_example_of_the_document(self):
        self.assertEqual(number_run(EXAMPLE, 0, 0), (0, ()))
        self.assertEqual(number_run(EXAMPLE, 1, 5), (0, (0, 1, 0, 1, 0)))
        self.assertIsNone(number_run(EXAMPLE, 0, 5))
        self.assertIsNone(number_run(EXAMPLE, 0, -2))

    def test_random_machines(self):
        rng = random.Random(42)
        for seed in range(300):
            machine = random_machine(seed)
            lots = reach(machine)
            for _ in range(6):
                station = rng.randrange(machine.stations)
                number = rng.randint(-60, 60)
                run = number_run(machine, station, number)
                self.assertEqual(run is None, number not in lots[station])
                if run is not None:
                    self.assertIsNone(run_fault(machine, station, number, run))
                    self.assertIsInstance(run, tuple)
                    self.assertIsInstance(run[1], tuple)
                    self.assertEqual(run, number_run(machine, station, number))

    def test_far_numbers(self):
        for number in (10000, -10000):
            machine = Machine(2, [(0, 0)], [(0, add(2), 0), (0, add(-2), 0), (0, add(1), 1)])
            self.assertIsNone(number_run(machine, 1, number))
            run = number_run(machine, 1, number + 1)
            self.assertIsNone(run_fault(machine, 1, number + 1, run))

    def test_runs_that_go_up_far_before_they_come_back(self):
        machine = two_rings(41, 43)
        run = number_run(machine, 41 + 5, 0)
        self.assertIsNone(run_fault(machine, 46, 0, run))
        self.assertGreater(max(numbers_of(machine, run)), 41)

    def test_it_raises_what_reach_raises(self):
        for machine in (rings([23, 29, 3]), rings([8, 3, 25], 20)):
            self.assertEqual(error_of(number_run, machine, 0, 0), error_of(reach, machine))

    def test_run_fault(self):
        machine = Machine(3, [(0, 0), (1, 4)],
                          [(0, add(1), 1), (1, ("so", ("is", 4)), 2), (1, ("stay",), 0)])
        self.assertIsNone(run_fault(machine, 2, 4, (1, (1,))))
        self.assertIsNone(run_fault(machine, 2, 4, [1, [1]]))
        self.assertIsNone(run_fault(machine, 0, 1, (0, (0, 2))))
        for start in (2, -1, True, False, None, "0", 0.0):
            self.assertEqual(run_fault(machine, 0, 0, (start, (9,))), "start", start)
        for arrow in (3, -1, True, False, None, "0"):
            self.assertEqual(run_fault(machine, 1, 1, (0, (0, arrow))), "arrow", arrow)
        self.assertEqual(run_fault(machine, 0, 0, (0, (2,))), "arrow")
        self.assertEqual(run_fault(machine, 2, 1, (0, (0, 1))), "barred")
        self.assertEqual(run_fault(machine, 2, 1, (0, (0, 1, 9))), "barred")
        self.assertEqual(run_fault(machine, 0, 5, (0, (0,))), "station")
        self.assertEqual(run_fault(machine, 1, 5, (0, (0,))), "number")
        self.assertEqual(run_fault(Machine(1, [], []), 0, 0, (0, ())), "start")


def numbers_of(machine, run):
    number = machine.starts[run[0]][1]
    numbers = [number]
    for index in run[1]:
        number = move_number(machine.arrows[index][1], number)
        numbers.append(number)
    return numbers


class KeepsTest(unittest.TestCase):
    def test_bad_lots(self):
        good = reach(EXAMPLE)
        for lots in (None, {}, (), good[:1], good + good[:1], (good[0], None), [good[0], ()], "ab"):
            self.assertEqual(error_of(keeps_fault, EXAMPLE, lots), ("BadLots",))
        self.assertIsNone(keeps_fault(EXAMPLE, list(good)))

    def test_the_example(self):
        self.assertIsNone(keeps_fault(EXAMPLE, (evens(), odds())))
        self.assertIsNone(keeps_fault(EXAMPLE, (whole_lot(), whole_lot())))
        self.assertEqual(keeps_fault(EXAMPLE, (odds(), evens())), ("start", 0, 0))
        self.assertEqual(keeps_fault(EXAMPLE, (evens(), range_lot(0, None))), ("arrow", 0, -2))
        self.assertEqual(keeps_fault(EXAMPLE, (range_lot(0, None), odds())), ("arrow", 0, 1))
        self.assertEqual(keeps_fault(EXAMPLE, (evens(), less_lot(odds(), just_lot([-99])))),
                         ("arrow", 0, -100))

    def test_the_first_start_and_the_first_arrow(self):
        machine = Machine(1, [(0, 1), (0, 2), (0, 3)], [(0, add(1), 0), (0, ("stay",), 0)])
        self.assertEqual(keeps_fault(machine, (just_lot([1, 4]),)), ("start", 1, 2))
        self.assertEqual(keeps_fault(machine, (just_lot([1, 2, 3]),)), ("arrow", 0, 3))

    def test_the_least_by_size_ahead_of_the_move(self):
        machine = Machine(2, [], [(0, ("deed", ("turn",)), 1)])
        self.assertEqual(keeps_fault(machine, (just_lot([4, -4]), empty_lot())), ("arrow", 0, -4))
        self.assertEqual(keeps_fault(machine, (just_lot([4, -4]), just_lot([4]))), ("arrow", 0, 4))
        machine = Machine(2, [], [(0, ("deed", ("mod", 3)), 1)])
        self.assertEqual(keeps_fault(machine, (whole_lot(), just_lot([0, 1]))), ("arrow", 0, -1))
        machine = Machine(2, [], [(0, ("deed", ("set", 20)), 1)])
        self.assertEqual(keeps_fault(machine, (just_lot([9, -8]), just_lot([19]))), ("arrow", 0, -8))
        machine = Machine(2, [], [(0, ("not", ("rest", 4, 0)), 1)])
        self.assertEqual(keeps_fault(machine, (evens(), odds())), ("arrow", 0, -2))

    def test_the_modulus_of_the_move_counts(self):
        machine = Machine(2, [], [(0, ("so", ("rest", 6, 2)), 1)])
        lot = make_lot(0, -1, (), 77, [46], [46])
        self.assertEqual(keeps_fault(machine, (lot, empty_lot())), ("arrow", 0, 200))
        machine = Machine(2, [], [(0, ("deed", ("mod", 6)), 1)])
        self.assertEqual(keeps_fault(machine, (lot, just_lot([0, 1, 3, 4, 5]))), ("arrow", 0, 200))

    def test_random_lots(self):
        rng = random.Random(43)
        for seed in range(400):
            machine = random_machine(seed)
            lots = []
            for lot in reach(machine):
                if rng.random() < 0.4 and not lot.bare:
                    lot = less_lot(lot, just_lot([within(lot, empty_lot())]))
                elif rng.random() < 0.3:
                    modulus = rng.randint(1, 4)
                    lot = make_lot(-5, 5, [n for n in range(-5, 6) if rng.random() < 0.7], modulus,
                                   [0], [modulus - 1])
                lots.append(lot)
            self.assertEqual(keeps_fault(machine, lots), led_out(machine, lots, 200), seed)

    def test_lots_with_far_ends(self):
        far = make_lot(-9000, 9000, [-9000, 9000], 10080, [5], [5])
        machine = Machine(2, [], [(0, add(20), 1), (0, ("stay",), 1)])
        self.assertEqual(keeps_fault(machine, (far, empty_lot())), ("arrow", 0, -9000))
        self.assertEqual(keeps_fault(machine, (make_lot(0, -1, (), 10080, [5041], [5041]),
                                               make_lot(0, -1, (), 10080, [5061], [5061]))),
                         ("arrow", 1, -5039))


if __name__ == "__main__":
    unittest.main()
