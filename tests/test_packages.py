"""Called and reached names, and programs joined from units [8.1]."""

import itertools
import random
import unittest

from support import error_of
from truebooks.packages import called_names, join_units, reached_names
from truebooks.programs import Program

STOP = ("stop",)


def calls(*names):
    return tuple(("call", name, (), 0) for name in names)


def procedure(name, *callees):
    return (name, 1, calls(*callees))


class NamesTest(unittest.TestCase):
    def test_called_names(self):
        rows = calls("q", "b", "q") + (("either", calls("p"), (("while", 0, ("is", 0), calls("a")),)),)
        program = Program([("p", 1, rows), ("q", 1, ()), ("b", 1, ()), ("a", 1, ())])
        self.assertEqual(called_names(program, "p"), ("a", "b", "p", "q"))
        self.assertEqual(called_names(program, "q"), ())

    def test_reached_names(self):
        program = Program([procedure("m", "b"), procedure("b", "c", "c"), procedure("c", "b"),
                           procedure("d", "a"), procedure("a")])
        self.assertEqual(reached_names(program, "m"), ("b", "c", "m"))
        self.assertEqual(reached_names(program, "c"), ("b", "c"))
        self.assertEqual(reached_names(program, "d"), ("a", "d"))
        self.assertEqual(reached_names(program, "a"), ("a",))
        chain = Program([procedure(f"p{at}", f"p{min(at + 1, 299)}") for at in range(300)])
        self.assertEqual(len(reached_names(chain, "p0")), 300)

    def test_errors(self):
        program = Program([procedure("m")])
        for name in ("x", "", None, 1, ("m",), ["m"]):
            self.assertEqual(error_of(called_names, program, name), ("NoProcedure", name))
            self.assertEqual(error_of(reached_names, program, name), ("NoProcedure", name))


class JoinTest(unittest.TestCase):
    def test_in_order(self):
        units = [[procedure("q", "m"), ["b", 2, [STOP]]], (), (procedure("m", "b", "z"), procedure("z"))]
        joined = join_units(units, "m")
        self.assertEqual(joined, Program([procedure("m", "b", "z"), ("b", 2, (STOP,)), procedure("q", "m"),
                                          procedure("z")]))
        self.assertEqual(joined.main, "m")
        self.assertEqual([name for name, _, _ in join_units(units, "z").procedures], ["z", "b", "m", "q"])
        self.assertEqual(units[0][1], ["b", 2, [STOP]])

    def test_any_grouping(self):
        procedures = [procedure("m", "a"), procedure("a", "c"), procedure("c", "m"), procedure("b")]
        want = join_units((procedures,), "m")
        rng = random.Random(81)
        for order in itertools.permutations(procedures):
            at = rng.randint(0, 4)
            self.assertEqual(join_units([order[:at], list(order[at:])], "m"), want)
        self.assertEqual(join_units([[one] for one in procedures], "m"), want)

    def test_bad_units(self):
        for units in (None, "m", {}, 3):
            self.assertEqual(error_of(join_units, units, "m"), ("BadUnit", -1))
        good = [procedure("m")]
        for unit in (None, "m", {}, 3, [None], ["abc"], [("m", 1)], [("m", 1, (), ())], [("", 1, ())],
                     [("M", 1, ())], [(1, 1, ())], [("m2345678x", 1, ())], [("2m", 1, ())],
                     [procedure("b"), (None, 1, ())], [{}]):
            self.assertEqual(error_of(join_units, (good, unit, None), "x"), ("BadUnit", 1), unit)

    def test_no_main(self):
        for name in ("x", None, "", 1, ("m",), ["m"]):
            self.assertEqual(error_of(join_units, ([procedure("m")],), name), ("NoProcedure", name))
        self.assertEqual(error_of(join_units, (), "m"), ("NoProcedure", "m"))
        self.assertEqual(error_of(join_units, ([], ()), "m"), ("NoProcedure", "m"))

    def test_what_program_raises(self):
        self.assertEqual(error_of(join_units, [[procedure("m"), procedure("b")], [procedure("b")]], "m"),
                         ("BadProgram", "b", -1, "twice"))
        self.assertEqual(error_of(join_units, [[procedure("m")], [procedure("m")]], "m"),
                         ("BadProgram", "m", -1, "twice"))
        # Of two with one name the elder unit's one is first, so its faults are told first.
        twins = [[("b", 0, ())], [procedure("b"), procedure("m")]]
        self.assertEqual(error_of(join_units, twins, "m"), ("BadProgram", "b", -1, "variables"))
        self.assertEqual(error_of(join_units, twins[::-1], "m"), ("BadProgram", "b", -1, "twice"))
        # The first procedure is main, then names ascending.
        units = [[("z", 1, 0), procedure("m", "x"), ("a", 1, (("deed",),))]]
        self.assertEqual(error_of(join_units, units, "m"), ("BadProgram", "m", 0, "callee"))
        self.assertEqual(error_of(join_units, [[("z", 1, 0), procedure("m"), ("a", 1, (("deed",),))]], "m"),
                         ("BadProgram", "a", 0, "row"))
        many = [[procedure(f"p{at}")] for at in range(301)]
        self.assertEqual(error_of(join_units, many, "p0"), ("BadProgram", "", -1, "many"))


if __name__ == "__main__":
    unittest.main()
