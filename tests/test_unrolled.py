"""Loops and calls written out [10.1] to [10.6]."""

import random
import unittest

from randoms import random_book, random_program
from support import chain_book, error_of, parity_book, sign_book
from truebooks.books import Book
from truebooks.calls import answer_program, row_told
from truebooks.errors import TooLarge, TooMany
from truebooks.places import flat_rows, place_count
from truebooks.programs import Program, rows_count
from truebooks.runs import all_runs, run_program
from truebooks.unrolled import Unrolled, carried_choices, unroll_place

ADD = ("deed", 0, ("add", 1))
STOP = ("stop",)
NINE = ("below", 9)
IS = ("is", 0)
FUEL = 4000


def nine_book():
    """The example book with a test that keeps every word."""
    return parity_book(tests=(NINE,), so=((0, 1, 2, 3),), not_so=((0, 1, 2, 3),))


def climbing_book(many=12, step=1):
    """A chain of words that ("add", 1) climbs; its tests keep every word."""
    joins = [[max(a, b) for b in range(many)] for a in range(many)]
    up = [0] + [min(word + step, many - 1) for word in range(1, many)]
    same = list(range(many))
    return Book([("set", 0), ("add", 1)], [NINE], joins, chain_book(many).meanings, [[0] + [1] * (many - 1), up],
                [same], [same], 1)


def text_of(book, program, name, key, place):
    unrolled = unroll_place(book, program, (name, key), place)
    return unrolled.program.procedures[0][2], unrolled.marks


def told_by(book, program, node, place):
    return row_told(answer_program(book, program, "entry"), node, place)


def end_row(book, text):
    answer = answer_program(book, text, "entry")
    return answer.tables[0][-1]


class ExampleTest(unittest.TestCase):
    def test_the_example(self):
        program = Program([("main", 1, (("while", 0, NINE, (ADD,)),))])
        turn = ("either", (), (("if", 0, NINE, (), (STOP,)), ADD))
        behind = ("if", 0, NINE, (STOP,), ())
        unrolled = unroll_place(nine_book(), program, ("main", (1,)), 2)
        self.assertEqual(unrolled, Unrolled(Program([("main", 1, (turn, behind))]), (None,) * 6))
        # At the loop there is no bar, inside it the one for the numbers that pass.
        self.assertEqual(text_of(nine_book(), program, "main", (1,), 0), ((turn,), (None,) * 4))
        inside = ("if", 0, NINE, (), (STOP,))
        self.assertEqual(text_of(nine_book(), program, "main", (1,), 1), ((turn, inside), (None,) * 6))

    def test_rows_ahead_of_a_place(self):
        fork = ("if", 0, NINE, (ADD, ADD), (("copy", 0, 0),))
        either = ("either", (ADD,), (fork, STOP))
        program = Program([("m", 1, (ADD, either, ADD))])
        bars = (("if", 0, NINE, (), (STOP,)), ("if", 0, NINE, (STOP,), ()))
        self.assertEqual(text_of(nine_book(), program, "m", (1,), 0), ((), ()))
        self.assertEqual(text_of(nine_book(), program, "m", (1,), 1), ((ADD,), (None,)))
        self.assertEqual(text_of(nine_book(), program, "m", (1,), 2), ((ADD, ("copy", 0, 0)), (None, 0)))
        self.assertEqual(text_of(nine_book(), program, "m", (1,), 3), ((ADD, ("copy", 0, 0)), (None, 1)))
        self.assertEqual(text_of(nine_book(), program, "m", (1,), 5),
                         ((ADD, ("copy", 0, 0), bars[0], ADD), (None, 1, None, None, None)))
        self.assertEqual(text_of(nine_book(), program, "m", (1,), 6),
                         ((ADD, ("copy", 0, 0), bars[1]), (None, 1, None, None)))
        self.assertEqual(text_of(nine_book(), program, "m", (1,), 7),
                         ((ADD, ("copy", 0, 0), fork), (None, 1, None, None, None, None)))
        self.assertEqual(text_of(nine_book(), program, "m", (1,), 8),
                         ((ADD, either), (None, "keep") + (None,) * 6))

    def test_where_no_row_is_told(self):
        # Behind a stop the rest of the block is one stop; an empty rest is none.
        either = ("either", (STOP, ADD, ADD), (("need", 0, IS), ADD, ("need", 0, IS), ADD))
        program = Program([("m", 1, (either, ("either", (STOP,), ())))])
        book = sign_book()
        written = ("either", (STOP, STOP), (("need", 0, IS), ADD, ("need", 0, IS), STOP))
        self.assertIsNone(told_by(book, program, ("m", (1,)), 8))
        self.assertEqual(text_of(book, program, "m", (1,), 8), ((STOP,), (None,)))
        program = Program([("m", 1, (("either", (either,), ()), ADD))])
        self.assertEqual(text_of(book, program, "m", (1,), 9),
                         ((("either", (written,), ()),), ("keep", "keep") + (None,) * 6))
        # A block that begins with None.
        program = Program([("m", 1, (("if", 0, IS, (ADD,), (ADD, ADD)),))])
        self.assertEqual(text_of(book, program, "m", (1,), 4)[0], (("if", 0, IS, (ADD,), (STOP,)),))

    def test_calls(self):
        program = Program([("m", 2, (("call", "p", (1,), 0), ADD)), ("p", 1, (ADD,))])
        rows, marks = text_of(nine_book(), program, "m", (1, 1), 2)
        self.assertEqual(rows, (("copy", 2, 1), ("deed", 2, ("add", 1)), ("copy", 0, 2), ADD))
        self.assertEqual(marks, (None,) * 4)
        # Without an argument the callee's variable gets the first word from one that keeps it.
        program = Program([("m", 1, (("call", "p", (), 0), ("call", "p", (0,), 0))), ("p", 2, (ADD,))])
        unrolled = unroll_place(nine_book(), program, ("m", (1,)), 2)
        self.assertEqual(unrolled.program.procedures[0],
                         ("main", 4, (("copy", 1, 3), ("copy", 2, 3), ("deed", 1, ("add", 1)), ("copy", 0, 1),
                                      ("copy", 1, 0), ("copy", 2, 3), ("deed", 1, ("add", 1)), ("copy", 0, 1))))
        # A call that never comes back is one stop.
        program = Program([("m", 1, (("either", (("call", "p", (), 0), ADD), ()),)), ("p", 1, (STOP,))])
        self.assertEqual(text_of(nine_book(), program, "m", (1,), 3),
                         ((("either", (STOP, STOP), ()),), ("keep", None, None)))

    def test_nodes_of_callees(self):
        program = Program([("m", 2, (ADD, ("call", "p", (1, 0), 1))), ("p", 3, (ADD, ("call", "q", (2,), 0))),
                           ("q", 1, (ADD,))])
        book = nine_book()
        self.assertEqual(text_of(book, program, "p", (1, 2, 1), 1)[0],
                         (ADD, ("copy", 2, 1), ("copy", 3, 0), ("copy", 4, 5), ("deed", 2, ("add", 1)),
                          ("copy", 0, 2), ("copy", 1, 3), ("copy", 2, 4)))
        unrolled = unroll_place(book, program, ("q", (1,)), 1)
        self.assertEqual(unrolled.program.procedures[0],
                         ("main", 7, (ADD, ("copy", 2, 1), ("copy", 3, 0), ("copy", 4, 6), ("deed", 2, ("add", 1)),
                                      ("copy", 5, 4), ("deed", 5, ("add", 1)), ("copy", 0, 5))))

    def test_recursion_is_written_out_by_depth(self):
        # p adds 1 or calls itself and adds 2, so its result is known at depth 1 for E; with
        # one more add in the second block it takes depth 2.
        for many, depth in ((2, 1), (1, 2)):
            rows = (("either", (ADD,), (("call", "p", (0,), 0),) + (ADD,) * many),)
            program = Program([("m", 1, (("call", "p", (0,), 0),)), ("p", 1, rows)])
            book = nine_book()
            unrolled = unroll_place(book, program, ("m", (1,)), 1)
            variables = unrolled.program.procedures[0][1]
            self.assertEqual(variables, 1 + depth)
            self.assertEqual(end_row(book, unrolled.program)[0], {2: 2, 1: 3}[many])
        # With depth 1 the call inside brings back nothing.
        rows = (("either", (ADD,), (("call", "p", (0,), 0), ADD, ADD)),)
        program = Program([("m", 1, (("call", "p", (0,), 0),)), ("p", 1, rows)])
        self.assertEqual(text_of(book, program, "m", (1,), 1)[0],
                         (("copy", 1, 0), ("either", (("deed", 1, ("add", 1)),), (STOP, STOP)), ("copy", 0, 1)))


class PropertyTest(unittest.TestCase):
    def check_text(self, book, program, node, place, row, unrolled):
        text = unrolled.program
        self.assertEqual(len(text.procedures), 1)
        self.assertEqual(text.main, "main")
        flat = flat_rows(text.procedures[0][2])
        self.assertFalse([row for row in flat if row[0] in ("while", "call")])
        self.assertEqual(len(unrolled.marks), len(flat))
        for mark, told in zip(unrolled.marks, flat):
            self.assertIn(mark, ("keep", 0, 1, None))
            if mark in (0, 1):
                self.assertEqual((told[0], told[1]), ("copy", told[2]))
            if mark == "keep":
                self.assertEqual(told[0], "either")
        end = end_row(book, text)
        if row is None:
            self.assertIsNone(end)
            self.assertEqual(text.procedures[0][2], (STOP,))
        else:
            self.assertEqual(end[:len(row)], row)

    def check_runs(self, rng, program, node, place, row, unrolled):
        """Runs of the text are runs of the program; return how many there were."""
        try:
            runs = all_runs(unrolled.program, FUEL, 12)
        except TooMany:
            runs = [run_program(unrolled.program, [rng.randrange(2) for _ in range(40)], FUEL) for _ in range(12)]
        done = 0
        for run in runs:
            if run.end == "done":
                carried = carried_choices(unrolled, run.choices)
                whole = run_program(program, carried, FUEL)
                numbers = run.steps[-1][3][:len(row)]
                self.assertIn((node[0], place, numbers), [step[1:] for step in whole.steps])
                done += 1
        return done

    def test_random_programs(self):
        rng = random.Random(101)
        done = nones = inside = 0
        for _ in range(250):
            book = random_book(rng, nones=rng.choice((0, 0.2, 0.5)))
            program = random_program(rng, book, procedures=rng.randint(1, 4), variables=3, depth=rng.randint(0, 3))
            answer = answer_program(book, program, "entry")
            for node, table in zip(answer.nodes, answer.tables):
                for place, row in enumerate(table):
                    unrolled = unroll_place(book, program, node, place)
                    self.check_text(book, program, node, place, row, unrolled)
                    nones += row is None
                    inside += node[0] != "main" and row is not None
                    if row is not None:
                        done += self.check_runs(rng, program, node, place, row, unrolled)
        self.assertGreater(min(done, nones, inside), 100)

    def test_the_other_way_round(self):
        rng = random.Random(102)
        met = 0
        for _ in range(150):
            book = random_book(rng, nones=rng.choice((0, 0.3)))
            program = random_program(rng, book, procedures=1, variables=2, depth=2, words=(
                "deed", "deed", "copy", "need", "if", "either", "either", "stop"))
            answer = answer_program(book, program, "entry")
            node = answer.nodes[0]
            table = answer.tables[0]
            runs = all_runs(program, FUEL, 400)
            for place, row in enumerate(table):
                if row is None:
                    continue
                unrolled = unroll_place(book, program, node, place)
                ends = {run.steps[-1][3][:len(row)] for run in all_runs(unrolled.program, FUEL, 400)
                        if run.end == "done"}
                for run in runs:
                    for _, _, at, values in run.steps:
                        if table[at] is None:
                            break
                        if at == place:
                            self.assertIn(values, ends)
                            met += 1
        self.assertGreater(met, 500)

    def test_recursion_and_loops_that_climb_far(self):
        book = climbing_book(7)
        loop = Program([("m", 2, (("while", 0, NINE, (("while", 1, NINE, (("deed", 1, ("add", 1)),)),
                                                      ("copy", 0, 1))),))])
        ring = Program([("m", 1, (("call", "p", (0,), 0),)),
                        ("p", 1, (("either", (("call", "q", (0,), 0), ADD), ()),)),
                        ("q", 1, (("either", (("call", "p", (0,), 0),), ()),))])
        for program in (loop, ring):
            answer = answer_program(book, program, "entry")
            for node, table in zip(answer.nodes, answer.tables):
                for place, row in enumerate(table):
                    unrolled = unroll_place(book, program, node, place)
                    self.check_text(book, program, node, place, row, unrolled)
                    if row is not None:
                        self.check_runs(random.Random(5), program, node, place, row, unrolled)
        self.assertEqual(told_by(book, ring, ("m", (1,)), 1), (6,))


class NoneTest(unittest.TestCase):
    def test_nodes_that_the_answer_has_not(self):
        program = Program([("m", 1, (ADD,)), ("p", 2, (ADD,))])
        for node in (("m", (2,)), ("m", ()), ("p", (1, 1)), ("p", None), ("p", "x")):
            for place in (0, 1):
                unrolled = unroll_place(nine_book(), program, node, place)
                self.assertEqual(unrolled.program.procedures[0][2], (STOP,))
                self.assertEqual(unrolled.marks, (None,))

    def test_errors_in_their_order(self):
        strange = Program([("m", 1, (("need", 0, ("is", 5)),))])
        self.assertEqual(error_of(unroll_place, nine_book(), strange, ("x", ()), -1), ("OtherAlphabet",))
        program = Program([("m", 1, (ADD,))])
        for name in ("x", None, "", 3):
            self.assertEqual(error_of(unroll_place, nine_book(), program, (name, (1,)), -1), ("NoProcedure", name))
        for place in (-1, 2, True, None, "0"):
            for key in ((1,), ()):
                self.assertEqual(error_of(unroll_place, nine_book(), program, ("m", key), place), ("BadPlace",))

    def test_results(self):
        program = Program([("main", 1, (ADD,))])
        one = Unrolled(program, [None])
        self.assertEqual(one.marks, (None,))
        self.assertEqual(one, Unrolled(Program([("main", 1, (ADD,))]), (None,)))
        self.assertNotEqual(one, Unrolled(program, (0,)))
        self.assertNotEqual(one, Unrolled(Program([("main", 1, ())]), (None,)))
        self.assertNotEqual(one, (program, (None,)))


class CarriedTest(unittest.TestCase):
    def test_choices(self):
        rows = (("either", (), (ADD,)), ("copy", 0, 0), ("either", (), (ADD,)), ("copy", 0, 0), ("copy", 0, 0))
        unrolled = Unrolled(Program([("main", 1, rows)]), ("keep", None, 1, None, None, 0, None))
        self.assertEqual(carried_choices(unrolled, ()), (0, 1, 0))
        # The second either has no "keep", so its choice is read and not carried.
        unrolled = Unrolled(Program([("main", 1, rows)]), (None, None, 1, "keep", None, 0, None))
        self.assertEqual(carried_choices(unrolled, ()), (1, 0, 0))
        self.assertEqual(carried_choices(unrolled, (0, 1)), (1, 1, 0))
        self.assertEqual(carried_choices(unrolled, [1, 1, 0, 1]), (1, 1, 0))
        self.assertEqual(carried_choices(unrolled, (1,)), (1, 0, 0))

    def test_a_run_that_ends_early(self):
        rows = (("either", (("need", 0, ("is", 1)),), ()), ("copy", 0, 0), ("either", (), ()))
        unrolled = Unrolled(Program([("main", 1, rows)]), ("keep", None, 1, "keep"))
        self.assertEqual(carried_choices(unrolled, (0, 1)), (0,))
        self.assertEqual(carried_choices(unrolled, (1, 1)), (1, 1, 1))

    def test_by_place(self):
        fork = ("either", (("either", (ADD,), (ADD, ADD)),), (ADD, ("either", (), (ADD,))))
        program = Program([("m", 1, (("either", (), (ADD,)), fork, ("while", 0, NINE, (("either", (), (ADD,)),))))])
        unrolled = unroll_place(nine_book(), program, ("m", (1,)), 8)
        self.assertEqual(unrolled.marks, ("keep", None, 1, None))
        self.assertEqual(carried_choices(unrolled, (1,)), (1, 1))
        # In a turn the turn's own choice is not carried, but the one inside is.
        unrolled = unroll_place(nine_book(), program, ("m", (1,)), place_count(program, "m"))
        for choices in ((0, 0, 0), (1, 1, 1, 1, 0), (1, 0, 1, 1, 1)):
            run = run_program(unrolled.program, choices, FUEL)
            carried = carried_choices(unrolled, choices)
            self.assertTrue(set(carried) <= {0, 1})
            if run.end == "done":
                self.assertIn(run.steps[-1][3], [step[3] for step in run_program(program, carried, FUEL).steps])


class LargeTest(unittest.TestCase):
    def fault(self, program, place=None, book=None, node=None):
        book = book or nine_book()
        if node is None:
            node = (program.main, (1,) * program.procedures[0][1])
        if place is None:
            place = place_count(program, node[0])
        return error_of(unroll_place, book, program, node, place)

    def test_rows(self):
        rows = (("call", "p", (0,), 0),) * 2
        for many, large in ((1498, False), (1499, True)):
            program = Program([("m", 1, rows), ("p", 1, (ADD,) * many)])
            self.assertEqual(self.fault(program), ("TooLarge", 3000) if large else None)
            self.assertIsNone(self.fault(program, 1))
        # Rows with blocks count like others, a bar is two rows and a turn one more.
        fork = ("if", 0, NINE, (ADD,), (("either", (), ()),))
        for many, large in ((2987, False), (2988, True)):
            program = Program([("m", 1, (("call", "p", (0,), 0), ADD)),
                               ("p", 1, (("while", 0, NINE, (fork, fork)),) + (ADD,) * many)])
            self.assertEqual(self.fault(program, 1), ("TooLarge", 3000) if large else None)
        # Turns: each of ten is written with the whole block.
        program = Program([("m", 1, (("while", 0, NINE, (ADD,) + (("copy", 0, 0),) * 296),))])
        self.assertEqual(self.fault(program, book=climbing_book(12)), ("TooLarge", 3000))
        self.assertIsNone(self.fault(program, book=climbing_book(11)))
        # What doubles from call to call is found too large at once.
        names = [f"p{at}" for at in range(30)]
        chain = [(name, 1, (("call", other, (0,), 0),) * 2) for name, other in zip(names, names[1:])]
        program = Program([*chain, ("p29", 1, (ADD,))])
        self.assertEqual(self.fault(program), ("TooLarge", 3000))
        self.assertIsNone(self.fault(program, 0))

    def test_variables(self):
        # 39 and one more for a callee are 40; the one that keeps the first word is one more.
        for sources, variables, large in (((0,), 39, False), ((), 39, True), ((), 38, False), ((0,), 40, True)):
            program = Program([("m", variables, (("call", "p", sources, 0),)), ("p", 1, (ADD,))])
            self.assertEqual(self.fault(program), ("TooLarge", 40) if large else None)
        self.assertIsNone(self.fault(Program([("m", 40, (ADD,))])))
        # Callees behind one another use the same variables again.
        program = Program([("m", 20, (("call", "p", (0,), 0),) * 5), ("p", 20, (ADD,))])
        self.assertEqual(self.fault(program), ("TooLarge", 40))
        program = Program([("m", 20, (("call", "p", (0,), 0),) * 5), ("p", 19, (ADD,))])
        self.assertIsNone(self.fault(program))
        # A way of calls.
        procedures = [(f"p{at}", 1, (("call", f"p{at + 1}", (0,), 0), ADD)) for at in range(60)]
        program = Program([*procedures, ("p60", 1, (ADD,))])
        self.assertIsNone(self.fault(program, 0, node=("p39", (1,))))
        self.assertEqual(self.fault(program, 0, node=("p40", (1,))), ("TooLarge", 40))
        self.assertEqual(self.fault(program), ("TooLarge", 40))
        # p21 calls 39 others one inside the other, p20 calls 40.
        self.assertIsNone(self.fault(Program(program.procedures[21:])))
        self.assertEqual(self.fault(Program(program.procedures[20:])), ("TooLarge", 40))

    def test_a_depth_beyond_all_bounds(self):
        # A ring of 12 words and 5 procedures: what comes back climbs at each fifth call.
        names = [f"p{at}" for at in range(5)]
        procedures = [(name, 1, (("either", (("call", names[(at + 1) % 5], (0,), 0),) + ((ADD,) if at == 0 else ()),
                                  ()),)) for at, name in enumerate(names)]
        program = Program([("m", 1, (("call", "p0", (0,), 0),)), *procedures])
        book = climbing_book()
        self.assertEqual(told_by(book, program, ("m", (1,)), 1), (11,))
        self.assertIn(self.fault(program, book=book), (("TooLarge", 40), ("TooLarge", 20)))
        self.assertIsNone(self.fault(program, 0, book=book, node=("p3", (1,))))

    def test_blocks(self):
        def nested(inner, deep):
            for _ in range(deep):
                inner = (("either", inner, ()),)
            return inner

        loop = (("while", 0, NINE, (ADD,)),)
        # A turn is an either with a bar in it, so a while goes one block deeper than it stands.
        for deep, large in ((18, False), (19, True)):
            program = Program([("m", 1, nested(loop, deep))])
            self.assertEqual(self.fault(program), ("TooLarge", 20) if large else None)
        # A loop that brings nothing new has no turns; its bar has blocks.
        still = (("while", 0, NINE, (("copy", 0, 0),)),)
        self.assertIsNone(self.fault(Program([("m", 1, nested(still, 19))])))
        self.assertIsNone(self.fault(Program([("m", 1, nested((ADD,), 20))])))
        program = Program([("m", 1, nested((("call", "p", (0,), 0),), 10)), ("p", 1, nested((ADD,), 10))])
        self.assertIsNone(self.fault(program))
        program = Program([("m", 1, nested((("call", "p", (0,), 0),), 10)), ("p", 1, nested((ADD,), 11))])
        self.assertEqual(self.fault(program), ("TooLarge", 20))
        # Loops in loops, and the blocks of a loop at which or in which the place is.
        both = (("while", 0, NINE, loop),)
        self.assertIsNone(self.fault(Program([("m", 1, nested(both, 17))])))
        self.assertEqual(self.fault(Program([("m", 1, nested(both, 18))])), ("TooLarge", 20))
        deep = Program([("m", 1, (("while", 0, NINE, nested((ADD,), 19)),))])
        for place in (0, 1, 20, 21):
            self.assertIsNone(self.fault(deep, place))
        # The place inside all blocks has no blocks ahead.
        self.assertIsNone(self.fault(Program([("m", 1, nested(loop, 19))]), 19))

    def test_loops_in_loops_are_looked_at_soon(self):
        rows = (ADD,)
        for at in range(9):
            rows = (("while", at % 3, NINE, (*rows, ("copy", (at + 1) % 3, at % 3))),)
        program = Program([("m", 3, rows)])
        try:
            unrolled = unroll_place(climbing_book(6), program, ("m", (1, 1, 1)), place_count(program, "m"))
            self.assertLessEqual(rows_count(unrolled.program.procedures[0][2]), 3000)
        except TooLarge as error:
            self.assertIn(error.most, (20, 40, 3000))


if __name__ == "__main__":
    unittest.main()
