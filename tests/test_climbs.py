"""Closed tables, rounds, picks and single steps [6.4] to [6.11]."""

import itertools
import random
import unittest

from randoms import join, plain_moves, plain_places, random_book, random_program
from support import error_of, parity_book, sign_book
from truebooks.climbs import Climb
from truebooks.orders import climb_by, order_of
from truebooks.programs import Program
from truebooks.rounds import Climbed, closed_fault, closed_table
from truebooks.rows import row_at_most

ADD = ("deed", 0, ("add", 1))
LOOP = Program([("m", 1, (("while", 0, ("is", 0), (ADD,)), ("stop",)))])
FORK = Program([("m", 1, (("either", (), ()), ("either", (ADD,), ()), ("call", "m", (0,), 0)))])
BELOW = ("below", 1)


def plain_table(book, program, name, entry, results):
    """The least closed table, by going over all places again and again."""
    places = plain_places(dict((n, rows) for n, _, rows in program.procedures)[name])
    table = [entry] + [None] * len(places)
    before = None
    while before != table:
        before = list(table)
        for place, (row, targets) in enumerate(places):
            if table[place] is not None:
                result = results[place] if results else 0
                for target, after in zip(targets, plain_moves(book, row, table[place], result)):
                    table[target] = join(book, table[target], after)
    return tuple(table)


def counted(book, program, name, entry, results, places):
    """(table, climbs) when a list of places is passed on, one after another."""
    rows = plain_places(dict((n, rows) for n, _, rows in program.procedures)[name])
    table = [entry] + [None] * len(rows)
    climbs = 0
    for place in places:
        told = table[place]
        if told is None:
            continue
        result = results[place] if results else 0
        for target, after in zip(rows[place][1], plain_moves(book, rows[place][0], told, result)):
            joined = join(book, table[target], after)
            if joined != table[target]:
                table[target] = joined
                climbs += 1
    return tuple(table), climbs


def cases(seed, many):
    rng = random.Random(seed)
    for _ in range(many):
        book = random_book(rng, nones=rng.choice((0, 0.3, 0.6)))
        program = random_program(rng, book, procedures=2, variables=2, depth=rng.randint(0, 3))
        name, variables, rows = rng.choice(program.procedures)
        end = len(plain_places(rows))
        entry = tuple(rng.randrange(1, book.many) for _ in range(variables))
        if rng.random() < 0.1:
            entry = None
        results = rng.choice(((), tuple(rng.randrange(book.many) for _ in range(end + 1))))
        yield rng, book, program, name, end, entry, results


class OrderTest(unittest.TestCase):
    def test_all_orders(self):
        self.assertEqual(order_of(0, 4), (0, 1, 2, 3))
        self.assertEqual({order_of(number, 4) for number in range(24)},
                         set(itertools.permutations(range(4))))
        self.assertEqual(order_of(23, 4), (3, 2, 1, 0))
        self.assertEqual(order_of(24, 4), (0, 1, 2, 3))
        # 7 modulo 3 is 1, then 2 modulo 2 is 0.
        self.assertEqual(order_of(7, 3), (1, 0, 2))
        self.assertEqual(order_of(5, 0), ())
        self.assertEqual(order_of(9, 1), (0,))
        self.assertEqual(sorted(order_of(10 ** 40 + 7, 30)), list(range(30)))


class ClosedTableTest(unittest.TestCase):
    def test_counted_by_hand(self):
        # The first round brings (1,) to 1, (2,) back to 0, which makes it (3,), and no more
        # to END, as ahead of it stands a stop; the second one brings 3 from 0 to 2.
        book = sign_book()
        climbed = closed_table(book, LOOP, "m", (1,))
        self.assertEqual(climbed.table, ((3,), (1,), (3,), None))
        self.assertEqual((climbed.climbs, climbed.passes), (3, 9))
        self.assertEqual(closed_table(book, LOOP, "m", [1], results=(), order=[2, 1, 0]),
                         Climbed(((3,), (1,), (3,), None), 3, 9))
        straight = Program([("m", 1, (ADD, ADD))])
        self.assertEqual(closed_table(book, straight, "m", (1,)), Climbed(((1,), (2,), (2,)), 2, 4))
        self.assertEqual(closed_table(book, straight, "m", (1,), order=(1, 0)),
                         Climbed(((1,), (2,), (2,)), 2, 6))

    def test_an_entry_of_none(self):
        climbed = closed_table(sign_book(), LOOP, "m", None)
        self.assertEqual(climbed, Climbed((None,) * 4, 0, 3))
        self.assertEqual(closed_table(sign_book(), Program([("m", 2, ())]), "m", (2, 3)),
                         Climbed(((2, 3),), 0, 0))

    def test_results(self):
        book = parity_book()
        self.assertEqual(closed_table(book, FORK, "m", (1,)).table, ((1,), (1,), (1,), (3,), None))
        self.assertEqual(closed_table(book, FORK, "m", (1,), results=[0, 0, 0, 2, 0]).table[-1], (2,))
        # Words at places other than calls mean nothing.
        self.assertEqual(closed_table(book, FORK, "m", (1,), results=(3, 2, 1, 0, 3)).table[-1], None)

    def test_the_row_at_that_moment_is_passed_on(self):
        # The so side leads the loop's own place higher while it is passed on.
        book = sign_book(so=((0, 3, 3, 3), (0, 1, 0, 3)), not_so=((0, 1, 3, 3), (0, 0, 2, 2)))
        program = Program([("m", 1, (("while", 0, ("is", 0), ()),))])
        climbed = closed_table(book, program, "m", (1,))
        self.assertEqual(climbed, Climbed(((3,), (3,)), 3, 3))
        self.assertEqual(climb_by(book, program, "m", (1,), []), Climbed(((3,), (3,)), 3, 2))

    def test_equal_arrows_climb_once(self):
        program = Program([("m", 1, (("either", (), ()),))])
        self.assertEqual(closed_table(parity_book(), program, "m", (1,)), Climbed(((1,), (1,)), 1, 2))

    def test_every_order_ends_at_the_least_table(self):
        for rng, book, program, name, end, entry, results in cases(63, 120):
            want = plain_table(book, program, name, entry, results)
            order = list(order_of(rng.randrange(10 ** 9), end))
            for told in (None, order):
                climbed = closed_table(book, program, name, entry, results=results, order=told)
                self.assertEqual(climbed.table, want)
                used = list(range(end)) if told is None else told
                rounds = climbed.passes // end if end else 1
                self.assertEqual(climbed.passes, rounds * end)
                table, climbs = counted(book, program, name, entry, results, used * rounds)
                self.assertEqual((table, climbs), (climbed.table, climbed.climbs))
                if rounds > 1:
                    _, elder = counted(book, program, name, entry, results, used * (rounds - 1))
                    self.assertEqual(elder, climbs)
                    _, elder = counted(book, program, name, entry, results, used * (rounds - 2))
                    self.assertLess(elder, climbs)

    def test_none_below_it_is_closed(self):
        for rng, book, program, name, end, entry, results in cases(64, 60):
            table = closed_table(book, program, name, entry, results=results).table
            self.assertIsNone(closed_fault(book, program, name, entry, table, results=results))
            for place in range(end + 1):
                if table[place] is not None:
                    lower = table[:place] + (None,) + table[place + 1:]
                    self.assertIsNotNone(closed_fault(book, program, name, entry, lower, results=results))

    def test_climbed_is_a_result(self):
        one = Climbed([(1,), None], 2, 3)
        self.assertEqual(one.table, ((1,), None))
        self.assertEqual(one, Climbed(((1,), None), 2, 3))
        for other in (Climbed(((1,),), 2, 3), Climbed(((1,), None), 1, 3), Climbed(((1,), None), 2, 4), None):
            self.assertNotEqual(one, other)


class ClimbByTest(unittest.TestCase):
    def test_counted_by_hand(self):
        book = sign_book()
        # 0, 1, then of 0 and 2 that wait the first, then 2 and at last nothing.
        self.assertEqual(climb_by(book, LOOP, "m", (1,), ()), Climbed(((3,), (1,), (3,), None), 3, 4))
        self.assertEqual(climb_by(book, LOOP, "m", (2,), ()), Climbed(((2,), None, (2,), None), 1, 2))
        self.assertEqual(climb_by(book, LOOP, "m", None, (1,)), Climbed((None,) * 4, 0, 0))
        self.assertEqual(climb_by(book, Program([("m", 1, ())]), "m", (2,), ()), Climbed(((2,),), 0, 0))

    def test_any_picks_end_at_the_least_table(self):
        for rng, book, program, name, end, entry, results in cases(65, 150):
            picks = [rng.choice((0, 1, 2, 5, 10 ** 20)) for _ in range(rng.randint(0, 6))]
            climbed = climb_by(book, program, name, entry, picks, results=results)
            self.assertEqual(climbed.table, plain_table(book, program, name, entry, results))
            self.assertEqual(climbed, plain_picked(book, program, name, entry, picks, results))

    def test_picks_make_a_difference(self):
        passed = {climb_by(sign_book(), LOOP, "m", (1,), [pick]).passes for pick in range(4)}
        self.assertEqual(passed, {4})
        program = Program([("m", 1, (("either", (ADD,), (ADD, ADD)), ADD, ADD))])
        passed = {climb_by(parity_book(), program, "m", (1,), [pick]).passes for pick in range(4)}
        self.assertGreater(len(passed), 1)


def plain_picked(book, program, name, entry, picks, results):
    rows = plain_places(dict((n, rows) for n, _, rows in program.procedures)[name])
    table = [entry] + [None] * len(rows)
    waiting = {0} if entry is not None and rows else set()
    climbs = passes = 0
    while waiting:
        pick = picks[passes % len(picks)] if picks else 0
        place = sorted(waiting)[pick % len(waiting)]
        waiting.remove(place)
        passes += 1
        moves = plain_moves(book, rows[place][0], table[place], results[place] if results else 0)
        for target, after in zip(rows[place][1], moves):
            joined = join(book, table[target], after)
            if joined != table[target]:
                table[target] = joined
                climbs += 1
                if target < len(rows):
                    waiting.add(target)
    return Climbed(table, climbs, passes)


class ClosedFaultTest(unittest.TestCase):
    def fault(self, table, entry=(1,), results=(), program=LOOP):
        return closed_fault(sign_book(), program, "m", entry, table, results=results)

    def test_closed_tables(self):
        self.assertIsNone(self.fault(((3,), (1,), (3,), None)))
        self.assertIsNone(self.fault([[3], [3], [3], [3]]))
        self.assertIsNone(self.fault((None,) * 4, None))

    def test_the_least_place_that_lacks_something(self):
        self.assertEqual(self.fault(((2,), (1,), (3,), None)), 0)
        self.assertEqual(self.fault((None, None, None, None)), 0)
        self.assertEqual(self.fault(((3,), None, (3,), None)), 1)
        self.assertEqual(self.fault(((3,), (1,), (2,), None)), 2)
        # What stands at place 1 brings more to 0, which is before 2.
        self.assertEqual(self.fault(((1,), (1,), None, None)), 0)
        self.assertEqual(self.fault(((1,), None, None, None)), 1)
        call = Program([("m", 1, (("call", "m", (), 0),))])
        self.assertIsNone(self.fault(((1,), None), program=call))
        self.assertEqual(self.fault(((1,), None), results=(2, 0), program=call), 1)
        self.assertEqual(self.fault(((1,), (1,)), results=[2, 0], program=call), 1)
        self.assertIsNone(self.fault(((1,), (2,)), results=[2, 0], program=call))

    def test_no_tables(self):
        for table in (None, (), ((1,),) * 3, ((1,),) * 5, "1111", {}, ((1,), (1,), (1,), ()),
                      ((1,), (1,), (1,), (0,)), ((1,), (1,), (1,), (4,)), ((1,), (1,), (1,), (True,)),
                      ((1,), (1,), (1,), 1), ((1,), (1,), (1,), (1, 1)), ((1,), False, (1,), (1,))):
            self.assertEqual(self.fault(table), -1, table)

    def test_errors_ahead_of_the_table(self):
        self.assertEqual(error_of(self.fault, None, (0,)), ("BadEntry",))
        self.assertEqual(error_of(self.fault, None, (1,), (0,)), ("BadResults",))


class CheckingTest(unittest.TestCase):
    def assert_errors(self, function, **more):
        strange = Program([("m", 1, (("need", 0, ("is", 9)),))])
        wrong = {"results": (9,)}
        wrong.update(more)
        self.assertEqual(error_of(function, strange, "x", (0,), **wrong), ("OtherAlphabet",))
        for name in ("x", "", None, 1):
            self.assertEqual(error_of(function, LOOP, name, (0,), **wrong), ("NoProcedure", name))
        for entry in ((0,), (4,), (), (1, 1), (True,), "1", 1, {}, (None,), [-1]):
            self.assertEqual(error_of(function, LOOP, "m", entry, **wrong), ("BadEntry",))
        for results in (None, 0, "0000", (0,) * 3, (0,) * 5, (0, 0, 0, 4), (0, 0, 0, -1), (0, 0, 0, True),
                        (0, 0, None, 0), {}):
            more["results"] = results
            self.assertEqual(error_of(function, LOOP, "m", (1,), **more), ("BadResults",), results)

    def test_closed_table(self):
        def call(program, name, entry, results, order=None):
            return closed_table(sign_book(), program, name, entry, results=results, order=order)

        self.assert_errors(call, order=[0])
        for order in ((), (0, 1), (0, 1, 1), (0, 1, 3), (0, 1, 2, 3), "012", (0, True, 2), 3, (0, 1, None)):
            self.assertEqual(error_of(call, LOOP, "m", (1,), (), order), ("BadOrder",), order)
        order = [1, 0, 2]
        results = [0, 0, 0, 0]
        self.assertIsNone(error_of(call, LOOP, "m", [1], results, order))
        self.assertEqual((order, results), ([1, 0, 2], [0, 0, 0, 0]))

    def test_closed_fault(self):
        def call(program, name, entry, results):
            return closed_fault(sign_book(), program, name, entry, None, results=results)

        self.assert_errors(call)

    def test_climb_by(self):
        def call(program, name, entry, results, picks=()):
            return climb_by(sign_book(), program, name, entry, picks, results=results)

        self.assert_errors(call)
        for picks in (None, "0", 0, {}, (0,) * 61, (0, -1), (True,), (0, None), ("0",)):
            self.assertEqual(error_of(call, LOOP, "m", (1,), (9,), picks), ("BadPicks",), picks)
            self.assertEqual(error_of(call, LOOP, "m", (0,), (9,), picks), ("BadEntry",), picks)
        self.assertIsNone(error_of(call, LOOP, "m", (1,), (), [7] * 60))

    def test_climb(self):
        def call(program, name, entry, results=()):
            Climb(sign_book(), program, name, entry).settle(results)

        self.assert_errors(call)


class ClimbTest(unittest.TestCase):
    def test_step_by_step(self):
        climb = Climb(sign_book(), LOOP, "m", [1])
        self.assertEqual((climb.table, climb.climbs), (((1,), None, None, None), 0))
        self.assertIs(climb.settled(), False)
        self.assertIs(climb.pass_on(1), False)
        self.assertIs(climb.pass_on(0), True)
        self.assertEqual((climb.table, climb.climbs), (((1,), (1,), None, None), 1))
        self.assertIs(climb.pass_on(0), False)
        self.assertIs(climb.pass_on(1), True)
        self.assertIs(climb.pass_on(3), False)
        self.assertIs(climb.pass_on(0, 3), True)
        self.assertEqual((climb.table, climb.climbs), (((3,), (1,), (3,), None), 3))
        self.assertIs(climb.settled(), True)
        self.assertEqual(climb.settle(), 0)

    def test_entries_that_come_later(self):
        climb = Climb(sign_book(), LOOP, "m", None)
        self.assertEqual((climb.table, climb.climbs, climb.settled()), ((None,) * 4, 0, True))
        self.assertIs(climb.enter(None), False)
        self.assertIs(climb.enter([2]), True)
        self.assertEqual(climb.settle(), 1)
        self.assertIs(climb.enter((2,)), False)
        self.assertIs(climb.enter((1,)), True)
        self.assertEqual((climb.table[0], climb.climbs), ((3,), 3))
        self.assertIs(climb.settled(), False)
        self.assertEqual((climb.settle(), climb.climbs), (2, 5))
        self.assertEqual(climb.table, ((3,), (1,), (3,), None))

    def test_results_that_come_later(self):
        climb = Climb(parity_book(), FORK, "m", (1,))
        self.assertEqual(climb.settle(), 4)
        self.assertIs(climb.pass_on(3), False)
        self.assertIsNone(climb.table[-1])
        self.assertIs(climb.settled([0, 0, 0, 1, 0]), False)
        self.assertIs(climb.pass_on(3, 1), True)
        self.assertEqual(climb.table[-1], (1,))
        self.assertIs(climb.settled([0, 0, 0, 1, 0]), True)
        self.assertIs(climb.settled((0, 0, 0, 2, 0)), False)
        self.assertEqual(climb.settle((0, 0, 0, 2, 0)), 1)
        self.assertEqual((climb.table[-1], climb.climbs), ((3,), 6))
        # A row never sinks.
        self.assertEqual(climb.settle(), 0)
        self.assertEqual(climb.table[-1], (3,))

    def test_a_refused_call_changes_nothing(self):
        climb = Climb(sign_book(), LOOP, "m", (1,))
        for row in ((0,), (1, 1), 1, "1", (True,), ()):
            self.assertEqual(error_of(climb.enter, row), ("BadEntry",))
        for results in ((0,), None, (0, 0, 0, 9)):
            self.assertEqual(error_of(climb.settle, results), ("BadResults",))
            self.assertEqual(error_of(climb.settled, results), ("BadResults",))
        self.assertEqual((climb.table, climb.climbs), (((1,), None, None, None), 0))

    def test_whatever_was_passed_on_before(self):
        for rng, book, program, name, end, entry, results in cases(66, 120):
            climb = Climb(book, program, name, entry)
            joined = entry
            climbs = 0
            for _ in range(rng.randint(0, 12)):
                place = rng.randint(0, end)
                elder = climb.table
                if rng.random() < 0.2:
                    more = tuple(rng.randrange(1, book.many) for _ in range(len(entry or climb_row(program, name))))
                    climbed = climb.enter(more)
                    joined = join(book, joined, more)
                else:
                    climbed = climb.pass_on(place, results[place] if results else 0)
                changed = [at for at in range(end + 1) if climb.table[at] != elder[at]]
                self.assertEqual(bool(changed), climbed)
                self.assertTrue(all(row_at_most(book, a, b) for a, b in zip(elder, climb.table)))
                climbs = climb.climbs
            want = plain_table(book, program, name, joined, results)
            self.assertTrue(all(row_at_most(book, a, b) for a, b in zip(climb.table, want)))
            self.assertEqual(climb.settled(results), climb.table == want)
            more = climb.settle(results)
            self.assertEqual((climb.table, climb.climbs), (want, climbs + more))
            self.assertTrue(climb.settled(results))


def climb_row(program, name):
    return [0] * dict((n, variables) for n, variables, _ in program.procedures)[name]


if __name__ == "__main__":
    unittest.main()
