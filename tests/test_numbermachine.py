"""Moves, machines and rooms [2.3] to [2.5]."""

import unittest

from support import error_of
from test_letters import LETTERS, NO_LETTERS, NO_TESTS, TESTS
from truebooks.letters import do_letter, passes
from truebooks.numbermachine import Machine, check_move, move_number, number_of, room_of

FAR = 10 ** 30


class MovesTest(unittest.TestCase):
    def test_check_move(self):
        self.assertEqual(check_move(["stay"]), ("stay",))
        self.assertEqual(check_move(["deed", ["add", 3]]), ("deed", ("add", 3)))
        for letter in LETTERS:
            self.assertEqual(check_move(("deed", list(letter))), ("deed", letter))
        for test in TESTS:
            for word in ("so", "not"):
                move = check_move([word, list(test)])
                self.assertEqual(move, (word, test))
                self.assertIsInstance(move[1], tuple)

    def test_wrong_moves(self):
        for move in (None, "stay", (), [], ("stay", 1), ("deed",), ("so",), ("not",), ("deed", 1),
                     ("deed", ("turn",), 0), ("so", ("is", 0), 0), ("go", ("is", 0)), (1,), {"stay"},
                     ("so", ("turn",)), ("not", ("add", 1)), ("deed", ("is", 0)), ("stay", ("turn",)),
                     (["so"], ("is", 0)), True):
            self.assertEqual(error_of(check_move, move), ("BadMove",), move)
        for letter in NO_LETTERS:
            self.assertEqual(error_of(check_move, ("deed", letter)), ("BadMove",), letter)
        for test in NO_TESTS:
            self.assertEqual(error_of(check_move, ("so", test)), ("BadMove",), test)
            self.assertEqual(error_of(check_move, ("not", test)), ("BadMove",), test)

    def test_move_number(self):
        for number in (0, 1, -1, 17, -20, FAR, -FAR):
            self.assertEqual(move_number(("stay",), number), number)
            for letter in LETTERS:
                self.assertEqual(move_number(("deed", letter), number), do_letter(letter, number))
            for test in TESTS:
                good = passes(test, number)
                self.assertEqual(move_number(("so", test), number), number if good else None)
                self.assertEqual(move_number(("not", test), number), None if good else number)


class MachineTest(unittest.TestCase):
    def fault(self, *args):
        return error_of(Machine, *args)

    def test_attributes_hold_tuples(self):
        starts = [[0, 5], (1, -3), [0, 5]]
        arrows = [[0, ["deed", ["add", 1]], 1], (1, ("stay",), 0)]
        machine = Machine(2, starts, arrows)
        self.assertEqual(machine.stations, 2)
        self.assertEqual(machine.starts, ((0, 5), (1, -3), (0, 5)))
        self.assertEqual(machine.arrows, ((0, ("deed", ("add", 1)), 1), (1, ("stay",), 0)))
        self.assertEqual(arrows, [[0, ["deed", ["add", 1]], 1], (1, ("stay",), 0)])
        starts.clear()
        arrows[0][1][1][1] = 7
        self.assertEqual(machine.starts, ((0, 5), (1, -3), (0, 5)))
        self.assertEqual(machine.arrows[0], (0, ("deed", ("add", 1)), 1))

    def test_equality(self):
        machine = Machine(2, [(0, 0)], [(0, ("stay",), 1)])
        self.assertEqual(machine, Machine(2, ((0, 0),), [[0, ["stay"], 1]]))
        self.assertNotEqual(machine, Machine(3, [(0, 0)], [(0, ("stay",), 1)]))
        self.assertNotEqual(machine, Machine(2, [(0, 1)], [(0, ("stay",), 1)]))
        self.assertNotEqual(machine, Machine(2, [(0, 0)], [(0, ("stay",), 0)]))
        self.assertNotEqual(machine, Machine(2, [(0, 0)], [(0, ("stay",), 1)] * 2))
        self.assertNotEqual(machine, (2, ((0, 0),)))

    def test_stations(self):
        for stations in (0, 201, -1, True, None, 1.0, "1"):
            self.assertEqual(self.fault(stations, [], []), ("BadMachine", "stations", -1), stations)
        self.assertIsNone(self.fault(1, [], []))
        self.assertIsNone(self.fault(200, (), ()))

    def test_starts(self):
        for starts in (None, {}, "", {(0, 0)}, [(0, 0)] * 61, 3):
            self.assertEqual(self.fault(2, starts, []), ("BadMachine", "starts", -1))
        self.assertIsNone(self.fault(2, [(0, 0)] * 60, []))
        for start in ((2, 0), (-1, 0), (0, 1001), (0, -1001), (True, 0), (0, False), (0,), (0, 0, 0),
                      None, "00", 0, (0, None)):
            self.assertEqual(self.fault(2, [(1, 1000), (0, -1000), start, 7], []),
                             ("BadMachine", "starts", 2), start)
        # Too many comes ahead of a wrong one.
        self.assertEqual(self.fault(2, [None] * 61, []), ("BadMachine", "starts", -1))

    def test_arrows(self):
        good = (0, ("stay",), 1)
        for arrows in (None, {}, "", [good] * 4001, 3):
            self.assertEqual(self.fault(2, [], arrows), ("BadMachine", "arrows", -1))
        self.assertIsNone(self.fault(2, [], [good] * 4000))
        for arrow in ((0, ("stay",)), (0, ("stay",), 2), (2, ("stay",), 0), (-1, ("stay",), 0),
                      (True, ("stay",), 0), (0, ("stay",), False), (0, ("go",), 0), None, "abc",
                      (0, ("stay",), 0, 0), (0, ("stay",), -1), (0, None, 0), (0, ("so", ("is", 21)), 0)):
            self.assertEqual(self.fault(2, [], [good, arrow, None]), ("BadMachine", "arrows", 1), arrow)

    def test_several_faults_in_order(self):
        self.assertEqual(self.fault(0, None, None), ("BadMachine", "stations", -1))
        self.assertEqual(self.fault(1, None, None), ("BadMachine", "starts", -1))
        self.assertEqual(self.fault(1, [(0, 0), 0], None), ("BadMachine", "starts", 1))
        self.assertEqual(self.fault(1, [], None), ("BadMachine", "arrows", -1))


class RoomsTest(unittest.TestCase):
    def machine(self, moves, numbers=(0,)):
        return Machine(1, [(0, n) for n in numbers], [(0, move, 0) for move in moves])

    def test_rim(self):
        self.assertEqual(self.machine([], ()).rim, 1)
        self.assertEqual(self.machine([("stay",), ("deed", ("turn",))]).rim, 1)
        for move, rim in ((("deed", ("set", -9)), 9), (("deed", ("add", -7)), 7),
                          (("deed", ("mod", 5)), 5), (("so", ("below", -8)), 8),
                          (("not", ("is", 4)), 4), (("so", ("rest", 6, 2)), 6)):
            self.assertEqual(self.machine([move]).rim, rim)
        self.assertEqual(self.machine([("deed", ("add", 3))], (5, -30)).rim, 30)

    def test_block(self):
        self.assertEqual(self.machine([]).block, 1)
        self.assertEqual(self.machine([("deed", ("set", 20)), ("so", ("is", 20))]).block, 1)
        self.assertEqual(self.machine([("deed", ("add", -7))]).block, 7)
        self.assertEqual(self.machine([("deed", ("mod", 4)), ("so", ("rest", 6, 0))]).block, 12)
        moves = [("deed", ("mod", 4)), ("not", ("rest", 3, 0)), ("deed", ("add", 13))]
        self.assertEqual(self.machine(moves).block, 24)
        self.assertEqual(self.machine([("so", ("rest", 5, 1)), ("deed", ("add", 20))]).block, 20)
        self.assertEqual(self.machine([("so", ("rest", 5, 1)), ("so", ("below", 20))]).block, 5)
        self.assertEqual(self.machine([("deed", ("add", 0))]).block, 1)

    def test_rooms_at_the_rim_and_beyond(self):
        machine = self.machine([("deed", ("add", 3))], (5,))
        self.assertEqual((machine.rim, machine.block), (5, 3))
        for number in range(-5, 6):
            self.assertIsNone(room_of(machine, 0, number))
        self.assertEqual(room_of(machine, 0, 6), ((0, 1, 0), 0))
        self.assertEqual(room_of(machine, 0, 8), ((0, 1, 2), 0))
        self.assertEqual(room_of(machine, 0, 9), ((0, 1, 0), 1))
        self.assertEqual(room_of(machine, 0, -6), ((0, -1, 0), 0))
        self.assertEqual(room_of(machine, 0, -11), ((0, -1, 2), 1))

    def test_numbers_of_any_size(self):
        machine = self.machine([("deed", ("add", 3)), ("so", ("rest", 4, 1))], (5,))
        for number in (6, -6, 7, 1000, -1001, FAR, -FAR, FAR + 1):
            room, height = room_of(machine, 0, number)
            self.assertEqual(number_of(machine, room, height), number)
            self.assertIn(room[1], (1, -1))
            self.assertIn(room[2], range(machine.block))
        self.assertEqual(number_of(machine, (0, -1, 2), FAR), -(5 + 1 + machine.block * FAR + 2))


if __name__ == "__main__":
    unittest.main()
