"""Paths along which nothing is joined, and treatments on all programs [12.5] to [12.9]."""

import inspect
import random
import unittest

from randoms import join, plain_moves, plain_places, put, random_book, random_program, remade
from support import TREATMENTS, error_of, parity_book, sibling_book, sign_book
from truebooks.calls import answer_program, joined_row
from truebooks.callkin import treatments_alike
from truebooks.paths import is_silent, joins_fault, none_fault, path_lots, paths_alike, paths_row
from truebooks.places import row_at_place
from truebooks.programs import Program
from truebooks.rows import row_at_most
from truebooks.told import told_words
from truebooks.twobooks import Parts

ADD = ("deed", 0, ("add", 1))


def plain_paths(book, program):
    """The rows of paths by (name, entry row), by going over all again and again."""
    procedures = {name: (variables, plain_places(rows)) for name, variables, rows in program.procedures}
    main, many, _ = program.procedures[0]
    lots = {}

    def begin(name, row):
        if (name, row) not in lots:
            lots[name, row] = [set() for _ in range(len(procedures[name][1]) + 1)]
            lots[name, row][0].add(row)
        return lots[name, row]

    begin(main, (book.first,) * many)
    size = -1
    while size != sum(len(rows) for table in lots.values() for rows in table):
        size = sum(len(rows) for table in lots.values() for rows in table)
        for (name, _), table in list(lots.items()):
            for place, (row, targets) in enumerate(procedures[name][1]):
                for words in list(table[place]):
                    if row[0] != "call":
                        for target, after in zip(targets, plain_moves(book, row, words, 0)):
                            if after is not None:
                                table[target].add(after)
                        continue
                    entry = tuple(words[source] for source in row[2])
                    entry += (book.first,) * (procedures[row[1]][0] - len(entry))
                    for end in list(begin(row[1], entry)[-1]):
                        table[targets[0]].add(put(words, row[3], end[0]))
    return tuple((begun, tuple(tuple(sorted(rows)) for rows in lots[begun])) for begun in sorted(lots))


def rows_by_both(book, program):
    """Triples (place, the paths' row, the tables' row) for all places of a program."""
    answer = answer_program(book, program, "entry")
    lots = path_lots(book, program)
    found = []
    for name, _, rows in program.procedures:
        for place in range(len(plain_places(rows)) + 1):
            paths = None
            for (begun, _), table in lots:
                if begun == name:
                    for row in table[place]:
                        paths = join(book, paths, row)
            found.append(((name, place), paths, joined_row(book, answer, name, place)))
    return found


class LotsTest(unittest.TestCase):
    def test_by_hand(self):
        program = Program([("main", 1, (("either", (ADD,), ()), ("call", "p", (0,), 0))),
                           ("p", 2, (("copy", 1, 0), ADD))])
        self.assertEqual(path_lots(parity_book(), program), (
            (("main", (1,)), (((1,),), ((1,),), ((1,), (2,)), ((1,), (2,)))),
            (("p", (1, 1)), (((1, 1),), ((1, 1),), ((2, 1),))),
            (("p", (2, 1)), (((2, 1),), ((2, 2),), ((1, 2),))),
        ))
        self.assertEqual(paths_row(parity_book(), program, "main", 3), (3,))
        self.assertEqual(paths_row(parity_book(), program, "p", 2), (3, 3))

    def test_paths_that_end(self):
        program = Program([("main", 1, (("stop",), ADD)), ("p", 1, (ADD,))])
        self.assertEqual(path_lots(parity_book(), program), ((("main", (1,)), (((1,),), (), ())),))
        self.assertIsNone(paths_row(parity_book(), program, "main", 1))
        self.assertIsNone(paths_row(parity_book(), program, "p", 0))
        # A need that is never passed, and a call that never comes back.
        program = Program([("main", 1, (ADD, ("need", 0, ("is", 0)), ADD))])
        self.assertEqual(path_lots(sign_book(), program)[0][1], (((1,),), ((2,),), (), ()))
        program = Program([("main", 1, (("call", "p", (0,), 0), ADD)), ("p", 1, (("call", "p", (0,), 0),))])
        self.assertEqual(path_lots(parity_book(), program),
                         ((("main", (1,)), (((1,),), (), ())), (("p", (1,)), (((1,),), ()))))

    def test_recursion_and_loops(self):
        rows = (("either", (), (ADD, ("call", "p", (0,), 0))),)
        program = Program([("p", 1, rows)])
        self.assertEqual(path_lots(parity_book(), program), (
            (("p", (1,)), (((1,),), ((1,),), ((2,),), ((1,), (2,)))),
            (("p", (2,)), (((2,),), ((2,),), ((1,),), ((1,), (2,)))),
        ))
        book = sign_book(tests=(("below", 3), ("is", 0)), so=((0, 1, 2, 3),) * 2, not_so=((0, 0, 2, 2),) * 2)
        program = Program([("main", 1, (("while", 0, ("below", 3), (ADD,)),))])
        self.assertEqual(path_lots(book, program)[0][1], (((1,), (2,)), ((1,), (2,)), ((2,),)))

    def test_against_plain_paths(self):
        rng = random.Random(221)
        calls = many = 0
        for _ in range(500):
            book = random_book(rng, nones=rng.choice((0, 0, 0.2)))
            program = random_program(rng, book, variables=rng.randint(1, 3))
            lots = path_lots(book, program)
            self.assertEqual(lots, plain_paths(book, program))
            calls += len(lots) > 2
            many += max(len(rows) for _, table in lots for rows in table) > 2
            for (name, place), paths, told in rows_by_both(book, program):
                self.assertEqual(paths_row(book, program, name, place), paths)
                self.assertTrue(row_at_most(book, paths, told))
        self.assertGreater(min(calls, many), 30, (calls, many))

    def test_errors_in_their_order(self):
        book = parity_book()
        strange = Program([("m", 1, (("deed", 0, ("set", 1)),))])
        good = Program([("m", 1, (ADD,))])
        self.assertEqual(error_of(path_lots, book, strange), ("OtherAlphabet",))
        self.assertEqual(error_of(paths_row, book, strange, "x", 9), ("OtherAlphabet",))
        for name in ("x", None, 3, ("m",)):
            self.assertEqual(error_of(paths_row, book, good, name, 9), ("NoProcedure", name))
        for place in (2, -1, True, None, "0"):
            self.assertEqual(error_of(paths_row, book, good, "m", place), ("BadPlace",))
        self.assertIsNone(error_of(paths_row, book, good, "m", 1))


class FaultTest(unittest.TestCase):
    def test_the_example(self):
        book = sibling_book()
        self.assertEqual(told_words(book), (1, 2, 3))
        self.assertIsNone(joins_fault(book))
        self.assertEqual(none_fault(book), (("so", ("is", 0)), 2, 1))
        self.assertIsNone(paths_alike(book))
        self.assertIsNotNone(paths_alike(book, many=True))
        self.assertIsNotNone(treatments_alike(book))
        self.assertFalse(is_silent(book))

    def test_by_hand(self):
        self.assertIsNone(joins_fault(parity_book()))
        self.assertIsNone(none_fault(parity_book()))
        # ("turn",) leads Z to Z, P to any: the joins are kept; "mod" likewise.
        self.assertEqual(none_fault(sign_book()), (("so", ("is", 0)), 2, 1))
        book = parity_book(deeds=((0, 1, 1, 1), (0, 2, 2, 3)))
        self.assertEqual(joins_fault(book), (("deed", ("add", 1)), 1, 2))
        # The order of the book: all deeds, then each test with both its sides.
        self.assertEqual(joins_fault(sign_book()), (("deed", ("add", 1)), 1, 2))
        deeds = ((0, 1, 1, 1), (0, 2, 3, 3), (0, 1, 3, 3), (0, 1, 3, 3))
        book = sign_book(so=((0, 1, 1, 3), (0, 1, 2, 3)), not_so=((0, 2, 2, 2), (0, 0, 2, 2)), deeds=deeds)
        self.assertEqual(joins_fault(book), (("so", ("is", 0)), 1, 2))
        self.assertEqual(none_fault(book), (("not", ("below", 1)), 1, 2))
        book = sign_book(so=((0, 1, 2, 3), (0, 1, 1, 3)), not_so=((0, 2, 2, 3), (0, 2, 2, 2)), deeds=deeds)
        self.assertEqual(joins_fault(book), (("not", ("is", 0)), 1, 2))

    def test_against_plain_looking(self):
        rng = random.Random(222)
        seen = set()
        for _ in range(300):
            book = random_book(rng, nones=rng.choice((0, 0.2, 0.5)))
            words = told_words(book)
            steps = [(("deed", letter), row) for letter, row in zip(book.letters, book.deeds)]
            for test, so, not_so in zip(book.tests, book.so, book.not_so):
                steps += [(("so", test), so), (("not", test), not_so)]
            joins = [(step, w, u) for step, row in steps for w in words for u in words
                     if w < u and row[book.joins[w][u]] != book.joins[row[w]][row[u]]]
            nones = [(step, w, u) for step, row in steps for w in words for u in words
                     if row[w] == 0 and row[u] != 0]
            self.assertEqual(joins_fault(book), joins[0] if joins else None)
            self.assertEqual(none_fault(book), nones[0] if nones else None)
            silent = all(row[w] == 0 for row in book.not_so for w in words)
            self.assertEqual(is_silent(book), silent)
            seen.add((bool(joins), bool(nones), silent))
        self.assertGreater(len(seen), 4)

    def test_silent_books(self):
        self.assertTrue(is_silent(parity_book()))
        self.assertFalse(is_silent(sign_book()))
        # Words that are not told do not count.
        book = parity_book(tests=(("is", 0),), so=((0, 1, 2, 3),), not_so=((0, 0, 2, 3),), deeds=((0, 1, 1, 1),) * 2)
        self.assertTrue(is_silent(book))
        self.assertFalse(is_silent(remade(book, first=2)))


class AlikeTest(unittest.TestCase):
    def check_parts(self, book, parts, most):
        self.assertIsInstance(parts, Parts)
        self.assertTrue(all(variables <= most for _, variables, _ in parts.program.procedures))
        row_at_place(parts.program, parts.name, parts.place)
        answer = answer_program(book, parts.program, "entry")
        told = joined_row(book, answer, parts.name, parts.place)
        self.assertNotEqual(paths_row(book, parts.program, parts.name, parts.place), told)

    def test_the_arguments(self):
        self.assertEqual(str(inspect.signature(paths_alike)), "(book, *, many=False)")

    def test_programs_that_part(self):
        rng = random.Random(223)
        seen = {}
        for _ in range(250):
            book = random_book(rng, nones=rng.choice((0, 0.2, 0.5)))
            one = paths_alike(book)
            many = paths_alike(book, many=True)
            self.assertEqual(one is None, joins_fault(book) is None)
            self.assertEqual(many is None, joins_fault(book) is None and none_fault(book) is None)
            if one is not None:
                self.check_parts(book, one, 1)
            if many is not None:
                self.check_parts(book, many, 2)
            self.assertEqual(many, paths_alike(book, many=True))
            seen[one is None, many is None] = seen.get((one is None, many is None), 0) + 1
        self.assertEqual(set(seen), {(True, True), (True, False), (False, False)})
        self.assertGreater(min(seen.values()), 5, seen)
        self.check_parts(sibling_book(), paths_alike(sibling_book(), many=True), 2)

    def test_books_that_are_alike(self):
        rng = random.Random(224)
        found = {1: 0, 3: 0}
        while min(found.values()) < 25:
            book = random_book(rng, nones=rng.choice((0, 0, 0.1, 0.5)), atoms=rng.choice((2, 3)))
            most = 3 if paths_alike(book, many=True) is None else 1
            if paths_alike(book) is None:
                found[most] += 1
                for _ in range(3):
                    program = random_program(rng, book, variables=most)
                    for _, paths, told in rows_by_both(book, program):
                        self.assertEqual(paths, told)


class KinTest(unittest.TestCase):
    def check_parts(self, book, parts):
        self.assertIsInstance(parts, Parts)
        self.assertLessEqual(len(parts.program.procedures), 300)
        self.assertTrue(all(variables <= 2 for _, variables, _ in parts.program.procedures))
        place = (parts.name, parts.place)
        for treatment in TREATMENTS:
            alarms = answer_program(book, parts.program, treatment).alarm_places
            self.assertEqual(place in alarms, treatment != "entry")

    def test_the_example(self):
        self.check_parts(sibling_book(), treatments_alike(sibling_book()))
        self.check_parts(sign_book(), treatments_alike(sign_book()))
        self.assertIsNone(treatments_alike(parity_book()))

    def test_programs_that_part(self):
        rng = random.Random(225)
        seen = set()
        for _ in range(200):
            book = random_book(rng, nones=rng.choice((0, 0.2, 0.6)), tests=rng.randint(0, 2))
            parts = treatments_alike(book)
            silent, kept = is_silent(book), none_fault(book) is None
            self.assertEqual(parts is None, silent or kept)
            if parts is not None:
                self.check_parts(book, parts)
            seen.add((silent, kept))
        self.assertEqual(len(seen), 4)

    def test_books_that_are_alike(self):
        rng = random.Random(226)
        found = {True: 0, False: 0}
        while min(found.values()) < 25:
            book = random_book(rng, nones=rng.choice((0, 0, 0.9)))
            if treatments_alike(book) is None:
                found[is_silent(book)] += 1
                for _ in range(2):
                    program = random_program(rng, book)
                    alarms = [answer_program(book, program, treatment).alarm_places for treatment in TREATMENTS]
                    self.assertEqual(alarms, [alarms[0]] * 5)
                    self.assertTrue(not is_silent(book) or not alarms[0])


if __name__ == "__main__":
    unittest.main()
