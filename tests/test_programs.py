"""Programs [4.1] to [4.3], [4.5], and of [4.6] procedure_of and rows_count."""

import unittest

from support import error_of
from truebooks.programs import Program, procedure_of, rows_count

ADD = ("add", 1)
DEED = ("deed", 0, ADD)
BELOW = ("below", 3)


def nested(depth, inner=(), word="while"):
    """A row with a block, in so many blocks of others."""
    rows = inner
    for _ in range(depth + 1):
        rows = (with_block(word, rows),)
    return rows[0]


def with_block(word, rows):
    if word == "if":
        return ("if", 0, BELOW, (), rows)
    return ("either", rows, ()) if word == "either" else ("while", 0, BELOW, rows)


class ProgramTest(unittest.TestCase):
    def test_tuples_in_the_place_of_all_sequences(self):
        given = [["m", 2, [["deed", 0, ["add", 1]], ["if", 1, ["is", 0], [["stop"]], []],
                           ["either", [], [["copy", 0, 1]]], ["while", 0, ["rest", 3, 1], [["need", 0, ["is", 2]]]],
                           ["call", "p", [0, 0], 1]]],
                 ["p", 3, []]]
        copy = repr(given)
        program = Program(given)
        want = (("m", 2, (("deed", 0, ("add", 1)), ("if", 1, ("is", 0), (("stop",),), ()),
                          ("either", (), (("copy", 0, 1),)),
                          ("while", 0, ("rest", 3, 1), (("need", 0, ("is", 2)),)),
                          ("call", "p", (0, 0), 1))),
                ("p", 3, ()))
        self.assertEqual(program.procedures, want)
        self.assertEqual(repr(given), copy)
        self.assertEqual(program, Program(want))
        given[0][2][0][2][1] = 7
        given[1][2].append(["stop"])
        self.assertEqual(program.procedures, want)

    def test_main_and_equality(self):
        one = Program([("b", 1, ()), ("a", 1, ())])
        self.assertEqual(one.main, "b")
        self.assertNotEqual(one, Program([("a", 1, ()), ("b", 1, ())]))
        self.assertNotEqual(one, Program([("b", 1, ()), ("a", 2, ())]))
        self.assertNotEqual(one, Program([("b", 1, ()), ("a", 1, (("stop",),))]))
        self.assertNotEqual(one, one.procedures)

    def test_recursion_and_calls_of_later_procedures(self):
        program = Program([("a", 1, (("call", "b", (0,), 0), ("call", "a", (), 0))), ("b", 2, ())])
        self.assertEqual(rows_count(program.procedures[0][2]), 2)

    def test_edges(self):
        self.assertIsNone(error_of(Program, [(f"p{n}", 1, ()) for n in range(300)]))
        self.assertIsNone(error_of(Program, [("abcdefgh", 40, (("deed", 39, ADD),))]))
        self.assertIsNone(error_of(Program, [("z9", 1, (("copy", 0, 0),))]))
        self.assertIsNone(error_of(Program, [("a", 1, [DEED] * 3000)]))
        self.assertIsNone(error_of(Program, [("a", 1, [nested(0, (DEED,) * 1499)] * 2)]))
        for word in ("if", "either", "while"):
            self.assertIsNone(error_of(Program, [("a", 1, [nested(19, (DEED,), word)])]))


class HeadFaultsTest(unittest.TestCase):
    def assert_fault(self, procedures, *fault):
        self.assertEqual(error_of(Program, procedures), ("BadProgram", *fault), procedures)

    def test_many(self):
        for procedures in (None, {}, "", (), [], [("a", 1, ())] * 301, 3):
            self.assert_fault(procedures, "", -1, "many")

    def test_procedure(self):
        for procedure in (None, "abc", (), ("a", 1), ("a", 1, (), ()), {"a": 1}, 3):
            self.assert_fault([("b", 1, None), procedure], "", -1, "procedure")

    def test_name(self):
        for name in (None, "", "abcdefghi", "A", "1a", "aB", "a_b", "a b", "a\n", "\u00e9", "a\u0661",
                     b"a", ["a"], 1, True, "-"):
            self.assert_fault([("b", 1, None), (name, None, None)], "", -1, "name")

    def test_twice_and_variables(self):
        self.assert_fault([("a", 1, ()), ("b", 1, ()), ("a", None, None)], "a", -1, "twice")
        for variables in (0, 41, -1, True, None, 1.0, "1"):
            self.assert_fault([("a", 1, ()), ("b", variables, None)], "b", -1, "variables")

    def test_rows(self):
        for rows in (None, {}, "", 3):
            self.assert_fault([("a", 1, ()), ("b", 1, rows)], "b", -1, "rows")

    def test_size(self):
        self.assert_fault([("a", 1, [DEED] * 3001)], "", -1, "size")
        self.assert_fault([("a", 1, [DEED] * 1500), ("b", 1, [DEED] * 1501)], "", -1, "size")
        self.assert_fault([("a", 1, [nested(0, (DEED,) * 1500)] * 2)], "", -1, "size")
        self.assert_fault([("a", 1, [DEED] * 10000)], "", -1, "size")

    def test_the_order_of_faults(self):
        # All heads come ahead of all rows, and the size behind them.
        self.assert_fault([("a", 1, None), ("b", 0, None)], "b", -1, "variables")
        self.assert_fault([("a", 1, None), (None, 0, None)], "", -1, "name")
        self.assert_fault([("a", 1, [None]), ("b", 1, None)], "a", 0, "row")
        self.assert_fault([("a", 1, [DEED] * 5000), ("b", 1, None)], "b", -1, "rows")
        self.assert_fault([("a", 1, [DEED] * 5000 + [None])], "a", 5000, "row")
        self.assert_fault([None] * 301, "", -1, "many")
        self.assert_fault([("a", 0, None), None], "a", -1, "variables")


class RowFaultsTest(unittest.TestCase):
    def assert_fault(self, what, *rows, place=0):
        procedures = [("q", 3, ()), ("a", 2, rows), ("b", 1, None)]
        self.assertEqual(error_of(Program, procedures), ("BadProgram", "a", place, what), rows)

    def test_row(self):
        for row in (None, "stop", (), [], ("stop", 0), ("deed", 0), ("deed", 0, ADD, 0), ("copy", 0),
                    ("need", 0), ("if", 0, BELOW, ()), ("if", 0, BELOW, (), (), ()), ("either", ()),
                    ("either", (), (), ()), ("while", 0, BELOW), ("while", 0, BELOW, (), ()),
                    ("call", "a", ()), ("call", "a", (), 0, 0), ("go", 0), ("so", 0, BELOW), (0,),
                    (None, 0, ADD), (["deed"], 0, ADD), {"stop": 1}, ("Stop",)):
            self.assert_fault("row", row)
            self.assert_fault("row", DEED, row, None, place=1)

    def test_variable(self):
        for v in (2, -1, True, None, "0", 0.0):
            for row in (("deed", v, None), ("copy", v, None), ("need", v, None), ("if", v, 0, 0, 0),
                        ("while", v, 0, 0), ("call", 0, 0, v)):
                self.assert_fault("variable", row)

    def test_source_letter_and_test(self):
        for source in (2, -1, False, None):
            self.assert_fault("source", ("copy", 1, source))
        for letter in (None, "turn", (), ("add", 21), ("add", True), BELOW, ("turn", 1)):
            self.assert_fault("letter", ("deed", 1, letter))
        for test in (None, "is", (), ("is", 21), ("rest", 3, 3), ADD, ("below", True)):
            self.assert_fault("test", ("need", 1, test))
            self.assert_fault("test", ("if", 1, test, None, None))
            self.assert_fault("test", ("while", 1, test, None))

    def test_callee_and_args(self):
        for callee in ("c", "", None, 1, ["a"], {}, ("a",), "A"):
            self.assert_fault("callee", ("call", callee, None, 0))
        for args in (None, "01", {}, (0, 1, 0), (2,), (-1,), (True,), (None,), ([0],)):
            self.assert_fault("args", ("call", "a", args, 0))
        self.assert_fault("args", ("call", "q", (0, 0, 0, 0), 0))
        self.assert_fault("args", ("call", "b", (0, 0), 0))
        for args in ((), (0,), (1, 1), [0, 1]):
            program = Program([("a", 2, (("call", "a", args, 0),))])
            self.assertEqual(program.procedures[0][2][0][2], tuple(args))

    def test_block(self):
        for block in (None, "", {}, 3):
            self.assert_fault("block", ("if", 0, BELOW, block, ()))
            self.assert_fault("block", ("if", 0, BELOW, (None,), block))
            self.assert_fault("block", ("either", block, ()))
            self.assert_fault("block", ("either", (), block))
            self.assert_fault("block", ("while", 0, BELOW, block))

    def test_deep(self):
        for word in ("if", "either", "while"):
            self.assert_fault("deep", nested(20, (), word), place=20)
            self.assert_fault("deep", DEED, nested(20, (None,), word), place=21)
            self.assert_fault("row", nested(19, (None,), word), place=20)
        # A row without a block may stand inside 20 blocks; "block" comes ahead of "deep".
        self.assert_fault("block", nested(19, (("either", None, ()),)), place=20)
        self.assert_fault("deep", nested(19, (DEED, ("either", (), ()))), place=21)
        self.assert_fault("test", nested(19, (("while", 0, None, ()),)), place=20)

    def test_places_count_in_the_order_of_the_text(self):
        good = ("if", 0, BELOW, (DEED, ("while", 1, BELOW, (DEED, DEED))), (DEED,))
        self.assert_fault("row", good, None, place=6)
        self.assert_fault("row", DEED, ("if", 0, BELOW, (DEED, None), (None,)), None, place=3)
        self.assert_fault("row", DEED, ("if", 0, BELOW, (DEED,), (DEED, None)), None, place=4)
        self.assert_fault("row", ("either", (good, DEED), (None,)), place=8)
        # A row is at fault itself ahead of the rows of its blocks.
        self.assert_fault("test", ("while", 0, None, (None,)))


class LookTest(unittest.TestCase):
    def test_rows_count(self):
        self.assertEqual(rows_count(()), 0)
        self.assertEqual(rows_count([DEED, ("stop",)]), 2)
        self.assertEqual(rows_count((("either", (), ()),)), 1)
        self.assertEqual(rows_count((("if", 0, BELOW, (DEED, nested(3, (DEED,))), (DEED,)), DEED)), 9)

    def test_procedure_of(self):
        program = Program([("a", 1, ()), ("b", 2, (DEED,))])
        self.assertEqual(procedure_of(program, "b"), ("b", 2, (DEED,)))
        self.assertEqual(procedure_of(program, "a"), ("a", 1, ()))
        for name in ("c", "", None, 0, ("a",), ["a"], True):
            self.assertEqual(error_of(procedure_of, program, name), ("NoProcedure", name))


if __name__ == "__main__":
    unittest.main()
