"""Rows of rooms by height, and core numbers [2.7]."""

import random
import time
import unittest

from support import add, error_of, met_couples, random_machine, random_move, rings, two_rings
from truebooks.heights import Heights, core_numbers, row_at, rooms_by_height
from truebooks.levels import level_rooms, room_arrows
from truebooks.numbermachine import Machine, room_of


class HeightsTest(unittest.TestCase):
    def test_the_example_of_the_document(self):
        machine = Machine(2, [(0, 0)], [(0, add(1), 1), (1, add(1), 0)])
        heights = rooms_by_height(machine)
        self.assertEqual(heights, Heights((((0, 1, 0),), ((1, 1, 0),)), 0))
        self.assertEqual(core_numbers(machine), ((0,), (1,)))

    def test_the_class_keeps_what_it_is_given(self):
        heights = Heights([((0, 1, 0),), ()], 1)
        self.assertEqual(heights.rows, (((0, 1, 0),), ()))
        self.assertEqual(heights.again, 1)
        self.assertEqual(heights, Heights((((0, 1, 0),), ()), 1))
        self.assertNotEqual(heights, Heights((((0, 1, 0),), ()), 0))
        self.assertNotEqual(heights, Heights((), 1))
        self.assertNotEqual(heights, ((((0, 1, 0),), ()), 1))

    def test_random_machines(self):
        for seed in range(400):
            machine = random_machine(seed)
            heights = rooms_by_height(machine)
            couples = met_couples(machine, machine.rim + machine.block * 80)
            rows = [set() for _ in range(25)]
            for station, number in couples:
                told = room_of(machine, station, number)
                if told is not None and told[1] < 25:
                    rows[told[1]].add(told[0])
            for height, row in enumerate(rows):
                self.assertEqual(row_at(heights, height), tuple(sorted(row)), (seed, height))
            core = [[] for _ in range(machine.stations)]
            for station, number in couples:
                if abs(number) <= machine.rim:
                    core[station].append(number)
            self.assertEqual(core_numbers(machine), tuple(tuple(sorted(part)) for part in core))

    def test_each_row_makes_the_next_one(self):
        for seed in range(400, 600):
            machine = random_machine(seed)
            heights = rooms_by_height(machine)
            self.assertEqual(len(set(heights.rows)), len(heights.rows))
            self.assertLess(heights.again, len(heights.rows))
            for height in range(len(heights.rows)):
                ups = {room for met in row_at(heights, height)
                       for change, room in room_arrows(machine, met) if change == 1}
                following = {room for up in ups for room in level_rooms(machine, up)}
                self.assertEqual(row_at(heights, height + 1), tuple(sorted(following)))

    def test_row_at(self):
        rows = [((station, 1, 0),) for station in range(5)]
        for again in range(5):
            heights = Heights(rows, again)
            height = 0
            for _ in range(40):
                told = [(height + n, row_at(heights, height + n)) for n in range(5)]
                for at, row in told:
                    while at >= 5:
                        at -= 5 - again
                    self.assertEqual(row, rows[at])
                height += 3
            far = (5 - again) * 10 ** 30
            self.assertEqual(row_at(heights, far + 4), rows[4])

    def test_jumps_from_rooms_that_are_met_high_alone(self):
        arrows = [(at, add(1), at + 1) for at in range(5)]
        arrows.extend([(5, ("deed", ("set", -1)), 6), (5, ("deed", ("mod", 1)), 7)])
        machine = Machine(8, [(0, 0)], arrows)
        rows = rooms_by_height(machine).rows
        self.assertEqual(rows, (((2, 1, 0),), ((3, 1, 0),), ((4, 1, 0),), ((5, 1, 0),), ()))
        self.assertEqual(core_numbers(machine), ((0,), (1,), (), (), (), (), (-1,), (0,)))

    def test_without_starts_and_without_arrows(self):
        for machine in (Machine(3, [], [(0, add(1), 1)]), Machine(3, [(1, 7), (1, -2)], [])):
            self.assertEqual(rooms_by_height(machine), Heights([()], 0))
        self.assertEqual(core_numbers(Machine(3, [(1, 7), (1, -2)], [])), ((), (-2, 7), ()))

    def test_a_start_at_the_rim_goes_just_beyond_it(self):
        machine = Machine(2, [(0, 30), (0, -30)], [(0, add(2), 1), (0, add(-1), 1)])
        heights = rooms_by_height(machine)
        self.assertEqual(heights.rows, (((1, -1, 0), (1, 1, 1)), ()))
        self.assertEqual(heights.again, 1)
        self.assertEqual(row_at(heights, 10 ** 30), ())

    def test_rows_that_come_round_late(self):
        heights = rooms_by_height(rings([16, 125]))
        self.assertEqual((len(heights.rows), heights.again), (2000, 0))
        self.assertEqual(row_at(heights, 2000), heights.rows[0])
        self.assertEqual(row_at(heights, 2000 * 10 ** 30 + 1999), heights.rows[1999])
        # A row of rooms more, ahead of those that come round, is one too many.
        ringed = rings([16, 125])
        starts = [*ringed.starts, (141, 0)]
        arrows = [*ringed.arrows, (141, ("stay",), 142), (142, add(1), 143), (143, add(1), 144)]
        late = Machine(145, starts, arrows)
        self.assertEqual(error_of(rooms_by_height, late), ("TooLong", 2000))
        self.assertEqual(error_of(rooms_by_height, rings([23, 29, 3])), ("TooLong", 2000))
        self.assertEqual(error_of(rooms_by_height, rings([2, 3, 5, 7, 11, 13, 17, 19, 23])),
                         ("TooLong", 2000))
        # The core is told all the same.
        self.assertEqual(len(core_numbers(rings([2, 3, 5, 7, 11, 13, 17, 19, 23]))), 100)

    def test_rows_that_fill_by_ways_that_go_up_far(self):
        heights = rooms_by_height(two_rings(97, 103))
        self.assertEqual((len(heights.rows), heights.again), (97, 0))
        self.assertEqual(len(heights.rows[0]), 207)

    def test_machines_of_the_greatest_size(self):
        for many in (500, 4000):
            rng = random.Random(many)
            starts = [(rng.randrange(200), rng.randint(-1000, 1000)) for _ in range(60)]
            arrows = [(rng.randrange(200), random_move(rng, 20, 6), rng.randrange(200))
                      for _ in range(many)]
            machine = Machine(200, starts, arrows)
            before = time.perf_counter()
            heights = rooms_by_height(machine)
            self.assertLess(time.perf_counter() - before, 120)
            self.assertGreater(len(heights.rows[0]), 5000)
            level = level_rooms(machine, heights.rows[0][0])
            self.assertLessEqual(set(level), set(heights.rows[0]))


if __name__ == "__main__":
    unittest.main()
