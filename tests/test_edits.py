"""Edits of programs [8.2] and [8.3]."""

import random
import unittest

from randoms import plain_places, random_book, random_program
from support import error_of
from truebooks.edits import edit_program
from truebooks.places import place_count, row_at_place
from truebooks.programs import Program

ADD = ("deed", 0, ("add", 1))
TURN = ("deed", 0, ("turn",))
STOP = ("stop",)
FORK = ("either", (ADD, STOP), (("while", 0, ("is", 0), (TURN,)),))
CALL = ("call", "q", (), 0)


def start():
    return Program([("m", 1, (ADD, FORK, CALL)), ("p", 1, ()), ("q", 2, (TURN,))])


def rows_behind(*edits):
    return edit_program(start(), edits).procedures[0][2]


class RowsTest(unittest.TestCase):
    def test_a_row_in_the_place_of_another(self):
        self.assertEqual(rows_behind(("row", "m", 0, TURN)), (TURN, FORK, CALL))
        self.assertEqual(rows_behind(["row", "m", 1, list(STOP)]), (ADD, STOP, CALL))
        self.assertEqual(rows_behind(("row", "m", 2, STOP))[1][1], (STOP, STOP))
        self.assertEqual(rows_behind(("row", "m", 3, FORK))[1][1], (ADD, FORK))
        self.assertEqual(rows_behind(("row", "m", 4, ADD))[1][2], (ADD,))
        self.assertEqual(rows_behind(("row", "m", 5, ADD))[1][2], (("while", 0, ("is", 0), (ADD,)),))
        self.assertEqual(rows_behind(("row", "m", 6, ADD)), (ADD, FORK, ADD))

    def test_a_row_ahead_of_another(self):
        self.assertEqual(rows_behind(("put", "m", 0, TURN)), (TURN, ADD, FORK, CALL))
        self.assertEqual(rows_behind(("put", "m", 1, TURN)), (ADD, TURN, FORK, CALL))
        self.assertEqual(rows_behind(("put", "m", 3, TURN))[1][1], (ADD, TURN, STOP))
        self.assertEqual(rows_behind(("put", "m", 4, TURN))[1][2][0], TURN)
        self.assertEqual(rows_behind(("put", "m", 5, ADD))[1][2][0][3], (ADD, TURN))
        self.assertEqual(rows_behind(("put", "m", 6, TURN)), (ADD, FORK, TURN, CALL))
        self.assertEqual(rows_behind(("put", "m", 7, TURN)), (ADD, FORK, CALL, TURN))
        self.assertEqual(edit_program(start(), [("put", "p", 0, ADD)]).procedures[1], ("p", 1, (ADD,)))

    def test_a_row_removed(self):
        self.assertEqual(rows_behind(("strike", "m", 0)), (FORK, CALL))
        self.assertEqual(rows_behind(("strike", "m", 1)), (ADD, CALL))
        self.assertEqual(rows_behind(("strike", "m", 3))[1][1], (ADD,))
        self.assertEqual(rows_behind(("strike", "m", 4))[1][2], ())
        self.assertEqual(rows_behind(("strike", "m", 5))[1][2], (("while", 0, ("is", 0), ()),))
        self.assertEqual(rows_behind(["strike", "m", 6]), (ADD, FORK))

    def test_random_places(self):
        rng = random.Random(82)
        for _ in range(150):
            program = random_program(rng, random_book(rng), procedures=2, depth=3)
            name, variables, rows = rng.choice(program.procedures)
            places = [row for row, _ in plain_places(rows)]
            fresh = ("if", 0, ("is", 0), (("copy", 0, 0),), (STOP,))
            at = rng.randrange(len(places))
            size = len(plain_places((places[at],)))
            behind = edit_program(program, [("strike", name, at)])
            self.assertEqual(heads(behind, name), heads(program, name)[:at] + heads(program, name)[at + size:])
            behind = edit_program(program, [("put", name, at, fresh)])
            self.assertEqual(heads(behind, name), heads(program, name)[:at] + ["if", "copy", "stop"]
                             + heads(program, name)[at:])
            self.assertEqual(row_at_place(behind, name, at + 3), places[at])
            self.assertEqual(edit_program(behind, [("strike", name, at)]), program)
            behind = edit_program(program, [("row", name, at, fresh)])
            self.assertEqual(heads(behind, name), heads(program, name)[:at] + ["if", "copy", "stop"]
                             + heads(program, name)[at + size:])
            self.assertEqual(edit_program(behind, [("row", name, at, places[at])]), program)
            end = place_count(program, name)
            behind = edit_program(program, [("put", name, end, fresh)])
            self.assertEqual(behind.procedures[program.procedures.index((name, variables, rows))][2],
                             rows + (fresh,))


def heads(program, name):
    return [row_at_place(program, name, place)[0] for place in range(place_count(program, name))]


class ProceduresTest(unittest.TestCase):
    def names(self, *edits):
        return [name for name, _, _ in edit_program(start(), edits).procedures]

    def test_units(self):
        unit = [["z", 1, [STOP]], ("p", 3, (ADD,)), ("a", 1, ())]
        behind = edit_program(start(), [("unit", unit)])
        self.assertEqual(behind, Program([*start().procedures[:1], ("p", 3, (ADD,)), start().procedures[2],
                                          ("z", 1, (STOP,)), ("a", 1, ())]))
        self.assertEqual(edit_program(start(), [("unit", ())]), start())
        self.assertEqual(unit[0], ["z", 1, [STOP]])
        # Procedures of a unit may call one another.
        behind = edit_program(start(), [["unit", (("x", 1, (("call", "y", (), 0),)), ("y", 1, ()))]])
        self.assertEqual(behind.procedures[3][2][0][1], "y")

    def test_drop_and_first(self):
        self.assertEqual(self.names(("drop", "p")), ["m", "q"])
        self.assertEqual(self.names(("drop", "m")), ["p", "q"])
        self.assertEqual(self.names(("first", "q")), ["q", "m", "p"])
        self.assertEqual(self.names(["first", "m"]), ["m", "p", "q"])
        self.assertEqual(self.names(("first", "q"), ("first", "p")), ["p", "q", "m"])
        self.assertEqual(edit_program(start(), [("first", "q")]).main, "q")

    def test_one_after_another(self):
        # Places are those behind the edits ahead.
        self.assertEqual(rows_behind(("strike", "m", 0), ("row", "m", 0, ADD), ("put", "m", 2, TURN)),
                         (ADD, CALL, TURN))
        edits = [("unit", [("x", 1, ())]), ("put", "m", 0, ("call", "x", (), 0)), ("strike", "m", 0),
                 ("drop", "x")]
        self.assertEqual(edit_program(start(), edits), start())
        rng = random.Random(83)
        for _ in range(40):
            edits = random_edits(rng, 5)
            program = start()
            done = []
            for edit in edits:
                if error_of(edit_program, program, [edit]) is None:
                    program = edit_program(program, (edit,))
                    done.append(edit)
            self.assertEqual(edit_program(start(), done), program)

    def test_what_is_passed_in_stays(self):
        program = start()
        edits = [["row", "m", 1, ["either", [list(ADD)], []]]]
        behind = edit_program(program, edits)
        self.assertEqual(program, start())
        self.assertEqual(edits, [["row", "m", 1, ["either", [list(ADD)], []]]])
        self.assertEqual(behind.procedures[0][2], (ADD, ("either", (ADD,), ()), CALL))
        self.assertEqual(edit_program(program, []), program)
        self.assertIsNot(edit_program(program, ()), program)


def random_edits(rng, many):
    """Edits of start(), some of which cannot be done."""
    edits = []
    for _ in range(many):
        name = rng.choice(("m", "m", "p", "q", "x"))
        row = rng.choice((ADD, TURN, STOP, FORK, CALL, ("need", 0, ("is", 0)), ("call", "x", (), 0)))
        edits.append(rng.choice((("row", name, rng.randint(0, 8), row), ("put", name, rng.randint(0, 8), row),
                                 ("strike", name, rng.randint(0, 8)), ("unit", ((name, 2, (row,)),)),
                                 ("drop", name), ("first", name))))
    return edits


class FaultTest(unittest.TestCase):
    def test_no_edits(self):
        for edits in (None, "x", {}, 3, [("first", "m")] * 61):
            self.assertEqual(error_of(edit_program, start(), edits), ("BadEdit", -1, "edits"))
        self.assertIsNone(error_of(edit_program, start(), [("first", "m")] * 60))

    def assert_fault(self, what, *edits):
        for edit in edits:
            for ahead in ((), (("first", "m"),)):
                self.assertEqual(error_of(edit_program, start(), (*ahead, edit, None)),
                                 ("BadEdit", len(ahead), what), edit)

    def test_forms(self):
        self.assert_fault("form", None, (), "row", ("rows", "m", 0, ADD), ("row", "m", 0), ("row", "m", 0, ADD, 1),
                          ("put", "x", 0), ("strike", "m"), ("strike", "m", 0, 0), ("unit",), ("drop",),
                          ("drop", "m", "p"), ("first", 1), ("drop", None), ("row", 1, 0, ADD),
                          ("row", "x", "0", ADD), ("put", "m", True, ADD), ("strike", "m", None),
                          ("strike", "m", 0.0), (["row"], "m", 0, ADD), ("unit", None), ("unit", "m"),
                          ("unit", [("m", 1)]), ("unit", [("M", 1, ())]), ("unit", [None]),
                          ("unit", [("p", 1, ()), ("x", 1, ()), ("p", 2, ())]), {}, 7)

    def test_names(self):
        self.assert_fault("name", ("row", "x", 99, None), ("put", "", 0, ADD), ("strike", "M", -1),
                          ("drop", "x"), ("first", "mm"))

    def test_places(self):
        self.assert_fault("place", ("row", "m", 7, None), ("row", "m", -1, ADD), ("put", "m", 8, None),
                          ("put", "m", -1, ADD), ("strike", "m", 7), ("strike", "m", -1), ("strike", "p", 0),
                          ("row", "p", 0, ADD), ("put", "p", 1, ADD))

    def test_no_program(self):
        self.assert_fault("program", ("row", "m", 0, None), ("row", "m", 0, ("deed", 1, ("add", 1))),
                          ("put", "m", 0, ("call", "x", (), 0)), ("put", "m", 7, ("stop", 1)), ("drop", "q"),
                          ("row", "m", 5, ("need", 0, ("is", 21))), ("unit", [("x", 0, ())]),
                          ("unit", [("q", 1, (ADD, None))]), ("unit", [("m", 1, (("call", "y", (), 0),))]),
                          ("put", "m", 0, [[]]), ("unit", [("q", 1, None)]), ("put", "q", 0, "stop"))
        self.assertEqual(error_of(edit_program, Program([("m", 1, ())]), [("drop", "m")]),
                         ("BadEdit", 0, "program"))
        deep = ("either", (), ())
        for _ in range(19):
            deep = ("either", (deep,), ())
        self.assertIsNone(error_of(edit_program, start(), [("put", "m", 0, deep)]))
        self.assertEqual(error_of(edit_program, start(), [("put", "m", 2, deep)]), ("BadEdit", 0, "program"))
        many = ("either", (ADD,) * 2000, (ADD,) * 990)
        self.assertIsNone(error_of(edit_program, start(), [("put", "m", 0, many)]))
        self.assertEqual(error_of(edit_program, start(), [("put", "m", 0, many), ("put", "m", 0, FORK)]),
                         ("BadEdit", 1, "program"))

    def test_a_call_of_a_procedure_that_comes_back_later(self):
        # What comes out must be a program behind each edit.
        edits = [("drop", "q"), ("unit", [("q", 1, ())])]
        self.assertEqual(error_of(edit_program, start(), edits), ("BadEdit", 0, "program"))


if __name__ == "__main__":
    unittest.main()
