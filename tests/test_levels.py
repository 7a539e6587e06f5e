"""Steps of rooms and level ways [2.6]."""

import random
import unittest

from support import add, random_machine, two_rings
from truebooks import levels
from truebooks.levels import level_rooms, room_arrows
from truebooks.numbermachine import Machine, move_number, number_of, room_of


def all_rooms(machine):
    return [(station, side, rest) for station in range(machine.stations)
            for side in (-1, 1) for rest in range(machine.block)]


def plain_level_rooms(machine, room, most):
    """The rooms to which level ways lead that go up at most so far."""
    seen = {(room, 0)}
    waiting = [(room, 0)]
    while waiting:
        place, height = waiting.pop()
        for change, target in room_arrows(machine, place):
            couple = (target, height + change)
            if 0 <= couple[1] <= most and couple not in seen:
                seen.add(couple)
                waiting.append(couple)
    return tuple(sorted({place for place, height in seen if height == 0}))


class RoomArrowsTest(unittest.TestCase):
    def test_they_tell_what_arrows_do_at_every_height(self):
        for seed in range(120):
            machine = random_machine(seed)
            for room in all_rooms(machine):
                steps = room_arrows(machine, room)
                self.assertEqual(steps, tuple(sorted(set(steps))))
                for height in (1, 2, 10 ** 30):
                    told = set()
                    number = number_of(machine, room, height)
                    for origin, move, target in machine.arrows:
                        after = move_number(move, number) if origin == room[0] else None
                        there = None if after is None else room_of(machine, target, after)
                        if there is not None:
                            told.add((there[1] - height, there[0]))
                    self.assertEqual(set(steps), told)

    def test_the_same_at_height_0_but_for_the_core(self):
        machine = Machine(2, [(0, 2)], [(0, add(-1), 1), (0, add(2), 0), (1, ("deed", ("turn",)), 0)])
        self.assertEqual((machine.rim, machine.block), (2, 2))
        self.assertEqual(room_arrows(machine, (0, 1, 0)), ((-1, (1, 1, 1)), (1, (0, 1, 0))))
        self.assertIsNone(room_of(machine, 1, number_of(machine, (0, 1, 0), 0) - 1))
        self.assertEqual(room_arrows(machine, (0, 1, 1)), ((0, (1, 1, 0)), (1, (0, 1, 1))))
        self.assertEqual(room_arrows(machine, (0, -1, 0)), ((-1, (0, -1, 0)), (0, (1, -1, 1))))
        self.assertEqual(room_arrows(machine, (1, -1, 1)), ((0, (0, 1, 1)),))

    def test_jumps_and_barred_numbers_give_no_steps(self):
        moves = [("deed", ("set", 3)), ("deed", ("mod", 4)), ("so", ("is", 2)), ("so", ("below", 3))]
        machine = Machine(1, [], [(0, move, 0) for move in moves])
        for rest in range(machine.block):
            self.assertEqual(room_arrows(machine, (0, 1, rest)), ())
            self.assertEqual(room_arrows(machine, (0, -1, rest)), ((0, (0, -1, rest)),))

    def test_no_duplicates(self):
        machine = Machine(1, [], [(0, ("stay",), 0)] * 5 + [(0, add(0), 0)])
        self.assertEqual(room_arrows(machine, (0, 1, 0)), ((0, (0, 1, 0)),))


class LevelRoomsTest(unittest.TestCase):
    def test_random_machines(self):
        for seed in range(250):
            machine = random_machine(seed)
            rooms = all_rooms(machine)
            for room in random.Random(seed).sample(rooms, min(3, len(rooms))):
                want = plain_level_rooms(machine, room, 60)
                self.assertEqual(level_rooms(machine, room), want, (seed, room))

    def test_rooms_that_are_made_one_early(self):
        first = levels.FIRST_BUDGET
        try:
            for budget in (1, 7, 40):
                levels.FIRST_BUDGET = budget
                self.test_random_machines()
        finally:
            levels.FIRST_BUDGET = first

    def test_the_room_itself(self):
        machine = Machine(1, [], [])
        self.assertEqual(level_rooms(machine, (0, 1, 0)), ((0, 1, 0),))

    def test_ways_go_up_far_before_they_come_back(self):
        machine = two_rings(13, 17)
        down = [(13 + at, 1, 0) for at in range(17)]
        self.assertEqual(level_rooms(machine, (0, 1, 0)), ((0, 1, 0), *down))
        self.assertEqual(plain_level_rooms(machine, (0, 1, 0), 208), ((0, 1, 0), *down))
        self.assertNotEqual(plain_level_rooms(machine, (0, 1, 0), 207), ((0, 1, 0), *down))

    def test_ways_go_up_thousands_of_heights(self):
        machine = two_rings(97, 103, 20)
        rooms = level_rooms(machine, (0, 1, 7))
        self.assertEqual(rooms, ((0, 1, 7), *[(97 + at, 1, 7) for at in range(103)]))


if __name__ == "__main__":
    unittest.main()
