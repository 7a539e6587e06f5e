"""Runs held against answers [16.1], [16.2]."""

import random
import unittest

from randoms import random_book, random_program, sound_book
from support import FOUR, TREATMENTS, error_of, evens, odds, parity_book, sign_book
from truebooks.books import Book
from truebooks.calls import answer_program, node_of_calls, row_told
from truebooks.fits import first_leaving, follow_run, leaving_run, quiet_failure
from truebooks.lies import Lies, verdict
from truebooks.lots import empty_lot, just_lot, range_lot, whole_lot
from truebooks.programs import Program
from truebooks.runs import all_runs, open_calls, run_program

ADD = ("deed", 0, ("add", 1))


def plain_leaving(book, program, answer, one):
    """The first (at, variable) by node_of_calls and row_told."""
    for at, (_, _, place, values) in enumerate(one.steps):
        node = node_of_calls(book, program, answer, open_calls(one, at))
        row = None if node is None else row_told(answer, node, place)
        if row is None:
            return (at, 0)
        for variable, number in enumerate(values):
            if number not in book.meanings[row[variable]]:
                return (at, variable)
    return None


def recursive_program():
    """A program that calls itself until its number is 3, and adds on the way back."""
    rows = (("if", 0, ("is", 0), (ADD, ("call", "p", (0,), 0)), ()), ADD)
    return Program([("main", 2, (("call", "p", (), 1), ("copy", 0, 1))), ("p", 1, rows)])


class FollowTest(unittest.TestCase):
    def test_by_hand(self):
        book = parity_book()
        program = Program([("main", 2, (("call", "p", (1,), 0), ADD)), ("p", 1, (ADD,))])
        one = run_program(program)
        answer = answer_program(book, program, "entry")
        main, callee = ("main", (1, 1)), ("p", (1,))
        self.assertEqual(follow_run(book, program, answer, one), (
            (main, (1, 1)), (callee, (1,)), (callee, (2,)), (main, (2, 1)), (main, (1, 1))))
        self.assertIsNone(first_leaving(book, program, answer, one))
        answer = answer_program(book, program, ("callers", 2))
        self.assertEqual(follow_run(book, program, answer, one)[1], (("p", (("main", 0),)), (1,)))

    def test_where_no_row_is_told(self):
        # The book says that adding never ends, so p has no node behind it.
        book = parity_book(deeds=((0, 1, 1, 1), (0, 0, 0, 0)))
        program = Program([("main", 1, (ADD, ("call", "p", (0,), 0))), ("p", 1, (("call", "q", (), 0),)), ("q", 1, ())])
        one = run_program(program)
        for treatment in TREATMENTS:
            answer = answer_program(book, program, treatment)
            main = answer.nodes[0]
            self.assertEqual(follow_run(book, program, answer, one), (
                (main, (1,)), (main, None), (None, None), (None, None), (None, None), (main, None)))
            self.assertEqual(first_leaving(book, program, answer, one), (1, 0))

    def test_against_open_calls(self):
        rng = random.Random(281)
        nones = deep = leaving = 0
        for _ in range(150):
            book = random_book(rng, nones=rng.choice((0, 0.3)))
            program = random_program(rng, book)
            for treatment in TREATMENTS:
                answer = answer_program(book, program, treatment)
                one = run_program(program, [rng.randrange(2) for _ in range(9)], 60)
                followed = follow_run(book, program, answer, one)
                self.assertEqual(len(followed), len(one.steps))
                for at, (depth, _, place, _) in enumerate(one.steps):
                    node = node_of_calls(book, program, answer, open_calls(one, at))
                    row = None if node is None else row_told(answer, node, place)
                    self.assertEqual(followed[at], (node, row))
                    nones += node is None
                    deep += depth > 1
                found = first_leaving(book, program, answer, one)
                self.assertEqual(found, plain_leaving(book, program, answer, one))
                leaving += found is not None
        self.assertGreater(min(nones, deep, leaving), 50)

    def test_recursion(self):
        book = sign_book()
        program = recursive_program()
        one = run_program(program)
        self.assertEqual(one.steps[-1][3], (3, 3))
        for treatment in TREATMENTS:
            answer = answer_program(book, program, treatment)
            self.assertEqual(first_leaving(book, program, answer, one), plain_leaving(book, program, answer, one))
            self.assertIsNone(first_leaving(book, program, answer, one))

    def test_thousands_of_open_calls(self):
        program = Program([("main", 1, (ADD, ("call", "main", (), 0)))])
        one = run_program(program, (), 5000)
        self.assertEqual(one.steps[-1][0], 2499)
        for treatment in TREATMENTS:
            answer = answer_program(parity_book(), program, treatment)
            followed = follow_run(parity_book(), program, answer, one)
            self.assertEqual(len(followed), 5000)
            self.assertEqual(followed[-1][1], (2,))
            self.assertIsNone(first_leaving(parity_book(), program, answer, one))


class LeavingTest(unittest.TestCase):
    def test_the_least_variable(self):
        # Odd means just 5, so 1 leaves it; both variables do so at once.
        book = parity_book(meanings=(empty_lot(), evens(), just_lot([5]), whole_lot()))
        program = Program([("main", 3, (("deed", 2, ("add", 1)), ("copy", 1, 2)))])
        answer = answer_program(book, program, "one")
        self.assertEqual(first_leaving(book, program, answer, run_program(program)), (1, 2))
        late = parity_book(meanings=(empty_lot(), evens(), just_lot([1]), whole_lot()))
        program = Program([("main", 2, (ADD, ADD, ADD, ("copy", 1, 0), ("copy", 0, 0)))])
        answer = answer_program(late, program, "one")
        self.assertEqual(first_leaving(late, program, answer, run_program(program)), (3, 0))
        self.assertIsNone(first_leaving(late, program, answer, run_program(program, (), 3)))

    def test_lies_leave_their_words(self):
        rng = random.Random(282)
        lies = 0
        while lies < 60:
            book = random_book(rng, nones=rng.choice((0, 0.3)), letters=rng.randint(1, 4))
            lie = verdict(book)
            if isinstance(lie, Lies):
                lies += 1
                one = run_program(lie.program, lie.choices, 5000)
                for treatment in TREATMENTS:
                    answer = answer_program(book, lie.program, treatment)
                    at, variable = first_leaving(book, lie.program, answer, one)
                    self.assertLessEqual((at, variable), (lie.at, lie.variable))
                    self.assertIsNotNone(leaving_run(book, lie.program, answer, 2000, 400))

    def test_books_that_never_lie(self):
        rng = random.Random(283)
        steps = ends = 0
        for _ in range(80):
            book = sound_book(rng, nones=rng.choice((0, 0.2)))
            program = random_program(rng, book)
            for treatment in TREATMENTS:
                answer = answer_program(book, program, treatment)
                for choices in ((), [1] * 9, [rng.randrange(2) for _ in range(9)]):
                    one = run_program(program, choices, rng.randint(1, 60))
                    self.assertIsNone(first_leaving(book, program, answer, one))
                    self.assertIsNone(quiet_failure(book, program, answer, one))
                    steps += len(one.steps)
                    ends += one.end == "failed"
        self.assertGreater(steps, 2000)
        self.assertGreater(ends, 20)

    def test_leaving_runs(self):
        book = parity_book(meanings=(empty_lot(), evens(), range_lot(0, 2), whole_lot()))
        twice = ("either", (ADD,), (ADD, ADD, ADD))
        program = Program([("main", 1, (twice, ADD, twice))])
        answer = answer_program(book, program, "entry")
        # 3 leaves odd: first by the first choice 0 and the second one 0.
        self.assertEqual(leaving_run(book, program, answer, 200), plain_first(book, program, answer, 200))
        self.assertIsNotNone(leaving_run(book, program, answer, 200))
        self.assertIsNone(leaving_run(book, program, answer, 3))
        self.assertIsNone(leaving_run(parity_book(), program, answer_program(parity_book(), program, "one"), 200))

    def test_leaving_runs_against_all_runs(self):
        rng = random.Random(284)
        found = 0
        for _ in range(120):
            book = random_book(rng, nones=0.1)
            program = random_program(rng, book)
            answer = answer_program(book, program, rng.choice(TREATMENTS))
            fuel = rng.randint(1, 12)
            error = error_of(all_runs, program, fuel, 30)
            self.assertEqual(error_of(leaving_run, book, program, answer, fuel, 30), error)
            if error is None:
                leaving = leaving_run(book, program, answer, fuel, 30)
                self.assertEqual(leaving, plain_first(book, program, answer, fuel))
                found += leaving is not None
        self.assertGreater(found, 20)

    def test_the_errors_of_all_runs(self):
        book = parity_book()
        program = Program([("main", 1, (("either", (), ()),) * 7)])
        answer = answer_program(book, program, "one")
        for fuel in (0, 5001, True, None):
            self.assertEqual(error_of(leaving_run, book, program, answer, fuel, 0), ("BadFuel",))
        for most in (0, 401, True, None):
            self.assertEqual(error_of(leaving_run, book, program, answer, 9, most), ("BadMost",))
        # 128 runs are more than 64, the bound when none is named.
        self.assertEqual(error_of(leaving_run, book, program, answer, 9), ("TooMany", 64))
        self.assertIsNone(error_of(leaving_run, book, program, answer, 9, 128))
        self.assertEqual(error_of(leaving_run, book, program, answer, 9, 127), ("TooMany", 127))


def plain_first(book, program, answer, fuel):
    for one in all_runs(program, fuel, 400):
        leaving = plain_leaving(book, program, answer, one)
        if leaving is not None:
            return (one.choices, *leaving)
    return None


class QuietTest(unittest.TestCase):
    def test_by_hand(self):
        # E tells that the test holds, though 2 fails it.
        book = Book((("set", 0), ("add", 1)), (("is", 0),), FOUR, (empty_lot(), evens(), odds(), whole_lot()),
                    ((0, 1, 1, 1), (0, 2, 1, 3)), ((0, 1, 0, 1),), ((0, 0, 2, 2),), 1)
        need = ("need", 0, ("is", 0))
        program = Program([("main", 1, (ADD, ("either", (ADD,), ()), need))])
        answer = answer_program(book, program, "entry")
        self.assertEqual(answer.alarm_places, (("main", 3),))
        self.assertIsNone(quiet_failure(book, program, answer, run_program(program)))
        program = Program([("main", 1, (ADD, ADD, need, need))])
        answer = answer_program(book, program, "entry")
        self.assertEqual(answer.alarm_places, ())
        self.assertEqual(quiet_failure(book, program, answer, run_program(program)), 2)
        # Runs that end otherwise do not fail.
        self.assertIsNone(quiet_failure(book, program, answer, run_program(program, (), 2)))
        stopped = Program([("main", 1, (ADD, ADD, ("stop",), need))])
        answer = answer_program(book, stopped, "entry")
        self.assertIsNone(quiet_failure(book, stopped, answer, run_program(stopped)))

    def test_the_node_counts(self):
        # Called with odd the need alarms, called with even it is quiet; the run fails at both.
        book = Book((("set", 0), ("add", 1)), (("is", 0),), FOUR, (empty_lot(), evens(), odds(), whole_lot()),
                    ((0, 1, 1, 1), (0, 2, 1, 3)), ((0, 1, 2, 3),), ((0, 0, 2, 2),), 1)
        call = ("call", "p", (0,), 0)
        rows = (ADD, ("either", (call,), (ADD, call)))
        program = Program([("main", 1, rows), ("p", 1, (("need", 0, ("is", 0)),))])
        one, other = run_program(program, (0,)), run_program(program, (1,))
        self.assertEqual((one.end, other.end), ("failed", "failed"))
        answer = answer_program(book, program, "entry")
        self.assertEqual(answer.node_alarms, ((("p", (2,)), 0),))
        self.assertIsNone(quiet_failure(book, program, answer, one))
        self.assertEqual(quiet_failure(book, program, answer, other), len(other.steps) - 1)
        answer = answer_program(book, program, "one")
        self.assertIsNone(quiet_failure(book, program, answer, other))

    def test_where_no_node_is_told(self):
        book = parity_book(deeds=((0, 1, 1, 1), (0, 0, 0, 0)), tests=(("is", 0),), so=((0, 1, 2, 3),),
                           not_so=((0, 1, 2, 3),))
        program = Program([("main", 1, (ADD, ("call", "p", (0,), 0))), ("p", 1, (("need", 0, ("is", 0)),))])
        answer = answer_program(book, program, "one")
        self.assertEqual(quiet_failure(book, program, answer, run_program(program)), 2)

    def test_random_books(self):
        rng = random.Random(285)
        seen = {True: 0, False: 0}
        for _ in range(400):
            book = random_book(rng, nones=rng.choice((0.1, 0.5)))
            program = random_program(rng, book, words=("deed", "need", "need", "either", "call"))
            answer = answer_program(book, program, rng.choice(TREATMENTS))
            one = run_program(program, [rng.randrange(2) for _ in range(9)], 60)
            want = None
            if one.end == "failed":
                last = len(one.steps) - 1
                node = node_of_calls(book, program, answer, open_calls(one, last))
                want = None if (node, one.steps[last][2]) in answer.node_alarms else last
                seen[want is None] += 1
            self.assertEqual(quiet_failure(book, program, answer, one), want)
        self.assertGreater(min(seen.values()), 20)


if __name__ == "__main__":
    unittest.main()
