"""Places, arrows and alphabets [4.4], [4.6] to [4.8]."""

import random
import unittest

from support import error_of
from truebooks.places import alphabet_of, arrows_of, call_places, place_count, row_at_place
from truebooks.programs import Program

ADD = ("add", 1)
DEED = ("deed", 0, ADD)
IS = ("is", 0)
BELOW = ("below", 3)
STOP = ("stop",)
STAY = ("stay",)


def so(target, test=BELOW, v=0):
    return (("so", v, test), target)


def no(target, test=BELOW, v=0):
    return (("not", v, test), target)


def program_of(*rows):
    return Program([("first", 1, ()), ("p", 2, rows)])


class PlacesTest(unittest.TestCase):
    def test_places_in_the_order_of_the_text(self):
        inner = ("while", 1, IS, (DEED, STOP))
        row = ("if", 0, BELOW, (inner, ("copy", 0, 1)), (STOP,))
        program = program_of(DEED, row, ("call", "p", (0,), 1))
        want = [DEED, row, inner, DEED, STOP, ("copy", 0, 1), STOP, ("call", "p", (0,), 1), None]
        self.assertEqual(place_count(program, "p"), 8)
        self.assertEqual([row_at_place(program, "p", place) for place in range(9)], want)
        self.assertEqual(place_count(program, "first"), 0)
        self.assertIsNone(row_at_place(program, "first", 0))

    def test_call_places(self):
        call = ("call", "p", (), 0)
        program = program_of(call, ("either", (DEED, call), (("while", 0, IS, (call,)),)), STOP)
        self.assertEqual(call_places(program, "p"), (0, 3, 5))
        self.assertEqual(call_places(program, "first"), ())

    def test_errors(self):
        program = program_of(DEED)
        for function in (place_count, call_places, arrows_of):
            for name in ("q", "", None, 3, ["p"]):
                self.assertEqual(error_of(function, program, name), ("NoProcedure", name))
        self.assertEqual(error_of(row_at_place, program, "q", None), ("NoProcedure", "q"))
        for place in (-1, 2, True, False, None, "0", 0.0, (0,)):
            self.assertEqual(error_of(row_at_place, program, "p", place), ("BadPlace",), place)


class ArrowsTest(unittest.TestCase):
    def assert_arrows(self, rows, *arrows):
        self.assertEqual(arrows_of(program_of(*rows), "p"), arrows)

    def test_rows_without_blocks(self):
        call = ("call", "p", (0, 0), 1)
        self.assert_arrows((), ())
        self.assert_arrows((DEED, ("copy", 1, 1), ("need", 1, IS), call, STOP, DEED),
                           ((DEED, 1),), ((("copy", 1, 1), 2),), (so(3, IS, 1),), ((call, 4),), (),
                           ((DEED, 6),), ())

    def test_if(self):
        self.assert_arrows((("if", 0, BELOW, (DEED, STOP), (DEED,)), STOP),
                           (so(1), no(3)), ((DEED, 2),), (), ((DEED, 4),), (), ())
        self.assert_arrows((("if", 0, BELOW, (DEED,), ()),), (so(1), no(2)), ((DEED, 2),), ())
        self.assert_arrows((("if", 0, BELOW, (), (DEED,)),), (so(2), no(1)), ((DEED, 2),), ())
        self.assert_arrows((("if", 0, BELOW, (), ()), STOP), (so(1), no(1)), (), ())

    def test_either(self):
        self.assert_arrows((("either", (DEED,), (DEED, DEED)),), ((STAY, 1), (STAY, 2)),
                           ((DEED, 4),), ((DEED, 3),), ((DEED, 4),), ())
        self.assert_arrows((("either", (), ()), STOP), ((STAY, 1), (STAY, 1)), (), ())
        self.assert_arrows((("either", (), ()),), ((STAY, 1), (STAY, 1)), ())

    def test_while(self):
        self.assert_arrows((("while", 0, BELOW, (DEED, DEED)), STOP),
                           (so(1), no(3)), ((DEED, 2),), ((DEED, 0),), (), ())
        self.assert_arrows((("while", 0, BELOW, ()),), (so(0), no(1)), ())

    def test_rows_at_the_end_of_blocks(self):
        # A while as the last row of a while's block, of an if's and of an either's.
        inner = ("while", 1, IS, (DEED,))
        self.assert_arrows((("while", 0, BELOW, (DEED, inner)), STOP),
                           (so(1), no(4)), ((DEED, 2),), (so(3, IS, 1), no(0, IS, 1)), ((DEED, 2),),
                           (), ())
        self.assert_arrows((("if", 0, BELOW, (inner,), (inner,)), STOP),
                           (so(1), no(3)), (so(2, IS, 1), no(5, IS, 1)), ((DEED, 1),),
                           (so(4, IS, 1), no(5, IS, 1)), ((DEED, 3),), (), ())
        # Empty blocks at the end of a while's block lead back to the while.
        self.assert_arrows((("while", 0, BELOW, (("if", 1, IS, (), (DEED,)),)),),
                           (so(1), no(3)), (so(0, IS, 1), no(2, IS, 1)), ((DEED, 0),), ())
        self.assert_arrows((("while", 0, BELOW, (("either", (), ()),)), STOP),
                           (so(1), no(2)), ((STAY, 0), (STAY, 0)), (), ())
        self.assert_arrows((("while", 0, BELOW, (("while", 1, IS, ()),)),),
                           (so(1), no(2)), (so(1, IS, 1), no(0, IS, 1)), ())
        self.assert_arrows((("either", (("either", (DEED,), ()),), (STOP,)), DEED),
                           ((STAY, 1), (STAY, 3)), ((STAY, 2), (STAY, 4)), ((DEED, 4),), (),
                           ((DEED, 5),), ())

    def test_random_programs_by_walking(self):
        rng = random.Random(71)
        for _ in range(200):
            rows = random_block(rng, 4)
            program = program_of(*rows)
            arrows = arrows_of(program, "p")
            self.assertEqual(len(arrows), place_count(program, "p") + 1)
            self.assertEqual(arrows, tuple(plain_arrows(rows)))


def random_block(rng, depth):
    rows = []
    for _ in range(rng.choice((0, 1, 1, 2, 3))):
        kind = rng.choice(("deed", "stop", "need", "if", "either", "while"))
        if depth == 0 or kind in ("deed", "stop", "need"):
            rows.append(rng.choice((DEED, STOP, ("need", 1, IS), ("copy", 0, 1))))
        elif kind == "if":
            rows.append(("if", 0, BELOW, random_block(rng, depth - 1), random_block(rng, depth - 1)))
        elif kind == "either":
            rows.append(("either", random_block(rng, depth - 1), random_block(rng, depth - 1)))
        else:
            rows.append(("while", 1, IS, random_block(rng, depth - 1)))
    return tuple(rows)


def plain_arrows(rows):
    """The arrows found by labels: each row gets one, and what follows it is a label too."""
    flat = []

    def label(block, behind):
        labels = [object() for _ in block]
        for at, row in enumerate(block):
            following = labels[at + 1] if at + 1 < len(block) else behind
            entry = [labels[at], row, following, []]
            flat.append(entry)
            for part in row[1:]:
                if isinstance(part, tuple) and (not part or isinstance(part[0], tuple)):
                    entry[3].append(label(part, labels[at] if row[0] == "while" else following))
        return labels[0] if labels else behind

    end = object()
    label(rows, end)
    places = {id(entry[0]): at for at, entry in enumerate(flat)}
    places[id(end)] = len(flat)
    for _, row, following, heads in flat:
        behind = places[id(following)]
        into = [places[id(head)] for head in heads]
        if row[0] in ("deed", "copy"):
            yield ((row, behind),)
        elif row[0] == "need":
            yield (so(behind, row[2], row[1]),)
        elif row[0] == "if":
            yield (so(into[0], row[2], row[1]), no(into[1], row[2], row[1]))
        elif row[0] == "either":
            yield ((STAY, into[0]), (STAY, into[1]))
        elif row[0] == "while":
            yield (so(into[0], row[2], row[1]), no(behind, row[2], row[1]))
        else:
            yield ()
    yield ()


class AlphabetTest(unittest.TestCase):
    def test_first_occurrences(self):
        rows = (("while", 0, ("is", 5), (("deed", 0, ("turn",)), ("need", 0, ("below", 1)))),
                ("if", 0, ("rest", 2, 1), (DEED,), (("deed", 1, ("set", 4)), ("need", 0, ("is", 5)))),
                ("deed", 1, ("turn",)))
        program = Program([("z", 2, rows), ("a", 1, (DEED, ("deed", 0, ("mod", 2)), ("need", 0, IS)))])
        self.assertEqual(alphabet_of(program),
                         ((("turn",), ADD, ("set", 4), ("mod", 2)),
                          (("is", 5), ("below", 1), ("rest", 2, 1), IS)))
        self.assertEqual(alphabet_of(Program([("a", 1, (STOP,))])), ((), ()))


if __name__ == "__main__":
    unittest.main()
