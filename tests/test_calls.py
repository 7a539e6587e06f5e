"""Treatments of calls, answers and nodes [7.1] to [7.7]."""

import random
import unittest

from randoms import join, plain_family, plain_places, random_book, random_program
from support import error_of, parity_book, sign_book
from truebooks.calls import (
    Answer, answer_program, asked_nodes, joined_row, node_of_calls, result_of, row_told, table_of,
)
from truebooks.programs import Program
from truebooks.rows import entry_row, row_at_most
from truebooks.treatments import check_treatment, first_key, key_of

TREATMENTS = ("entry", ("callers", 3), ("callers", 2), ("callers", 1), "one")
ADD = ("deed", 0, ("add", 1))
CALL = ("call", "p", (0,), 0)
TWICE = Program([("main", 1, (CALL, CALL)), ("p", 1, (ADD,))])


def cases(seed, many, **more):
    rng = random.Random(seed)
    for _ in range(many):
        book = random_book(rng, nones=rng.choice((0, 0.2, 0.5)))
        yield rng, book, random_program(rng, book, procedures=rng.randint(1, 4), **more)


class TreatmentTest(unittest.TestCase):
    def test_treatments(self):
        for treatment in TREATMENTS:
            self.assertEqual(check_treatment(treatment), treatment)
        self.assertEqual(check_treatment(["callers", 2]), ("callers", 2))
        for treatment in (None, "", "Entry", "callers", ("entry",), ["one"], ("callers",), ("callers", 0),
                          ("callers", 4), ("callers", True), ("callers", "1"), ("callers", 1, 1), ("one", 1),
                          1, {}, (), ("entry", 1), [["callers"], 1]):
            self.assertEqual(error_of(check_treatment, treatment), ("BadTreatment",), treatment)

    def test_first_keys(self):
        book = parity_book(first=2)
        program = Program([("m", 3, ()), ("p", 1, ())])
        self.assertEqual(first_key(book, "entry", program), (2, 2, 2))
        for treatment in TREATMENTS[1:]:
            self.assertEqual(first_key(book, treatment, program), ())

    def test_keys(self):
        self.assertEqual(key_of("entry", (1,), "m", 3, "p", (1, 2)), (1, 2))
        self.assertEqual(key_of("entry", (1,), "m", 3, "p", [1, 2]), (1, 2))
        self.assertEqual(key_of("one", (), "m", 3, "p", (1, 2)), ())
        way = (("m", 1), ("p", 2), ("q", 3))
        self.assertEqual(key_of(("callers", 1), (), "m", 3, "p", (1, 2)), (("m", 3),))
        self.assertEqual(key_of(("callers", 3), way, "r", 0, "p", (1, 2)), (("p", 2), ("q", 3), ("r", 0)))
        self.assertEqual(key_of(("callers", 3), way[:2], "r", 0, "p", ()), way[:2] + (("r", 0),))
        self.assertEqual(key_of(("callers", 2), way[:2], "r", 0, "p", ()), (("p", 2), ("r", 0)))
        self.assertEqual(key_of(("callers", 1), way[:1], "r", 0, "p", ()), (("r", 0),))


class AnswerTest(unittest.TestCase):
    def test_the_example(self):
        book = parity_book()
        answer = answer_program(book, TWICE, "entry")
        self.assertEqual(answer.nodes, (("main", (1,)), ("p", (1,)), ("p", (2,))))
        self.assertEqual(answer.tables, (((1,), (2,), (1,)), ((1,), (2,)), ((2,), (1,))))
        self.assertEqual([result_of(answer, node) for node in answer.nodes], [1, 2, 1])
        answer = answer_program(book, TWICE, "one")
        self.assertEqual(answer.nodes, (("main", ()), ("p", ())))
        self.assertEqual(row_told(answer, ("p", ()), 0), (3,))
        self.assertEqual(row_told(answer, ("main", ()), 2), (3,))
        answer = answer_program(book, TWICE, ["callers", 2])
        self.assertEqual(answer.treatment, ("callers", 2))
        self.assertEqual(answer.nodes, (("main", ()), ("p", (("main", 0),)), ("p", (("main", 1),))))

    def test_nodes_that_only_lower_rows_asked(self):
        book = parity_book(tests=(("below", 9),), so=((0, 1, 2, 3),), not_so=((0, 1, 2, 3),))
        program = Program([("main", 1, (("while", 0, ("below", 9), (("call", "f", (0,), 0),)),)),
                           ("f", 1, (ADD,))])
        answer = answer_program(book, program, "entry")
        self.assertEqual(answer.nodes, (("f", (3,)), ("main", (1,))))
        self.assertEqual(answer.tables, (((3,), (3,)), ((3,), (3,), (3,))))

    def test_a_call_that_never_comes_back(self):
        program = Program([("main", 2, (("call", "p", (), 1), ADD)), ("p", 1, (("call", "p", (0,), 0),))])
        for treatment in TREATMENTS:
            answer = answer_program(parity_book(), program, treatment)
            tables = {node: table for node, table in zip(answer.nodes, answer.tables)}
            for node, table in tables.items():
                want = ((1, 1), None, None) if node[0] == "main" else ((1,), None)
                self.assertEqual(table, want)
                self.assertEqual(result_of(answer, node), 0)
            ways = {"entry": 1, "one": 1, ("callers", 1): 2, ("callers", 2): 3, ("callers", 3): 4}
            self.assertEqual(len(tables), ways[treatment] + 1)

    def test_recursion_by_hand(self):
        # p adds 1, and by its second block adds 1 to what it makes of its own number.
        rows = (("either", (ADD,), (("call", "p", (0,), 0), ADD)),)
        program = Program([("main", 1, (("call", "p", (0,), 0),)), ("p", 1, rows)])
        for treatment in TREATMENTS:
            answer = answer_program(parity_book(), program, treatment)
            ends = {row_told(answer, node, 4) for node in answer.nodes if node[0] == "p"}
            self.assertEqual(ends, {(3,)})
        # Without the join the result is known: an odd number of letters.
        rows = (("either", (ADD,), (ADD, ("call", "p", (0,), 0), ADD)),)
        program = Program([("main", 1, (("call", "p", (0,), 0),)), ("p", 1, rows)])
        answer = answer_program(parity_book(), program, "entry")
        self.assertEqual(answer.nodes, (("main", (1,)), ("p", (1,)), ("p", (2,))))
        self.assertEqual(result_of(answer, ("p", (1,))), 2)
        self.assertEqual(result_of(answer, ("p", (2,))), 1)
        answer = answer_program(parity_book(), program, "one")
        self.assertEqual(result_of(answer, ("p", ())), 3)

    def test_against_plain_climbing(self):
        for rng, book, program in cases(71, 150, depth=2):
            for treatment in TREATMENTS:
                family = plain_family(book, program, treatment)
                for _ in range(2):
                    picks = [rng.choice((0, 1, 3, 10 ** 9)) for _ in range(rng.randint(0, 5))]
                    answer = answer_program(book, program, treatment, picks)
                    self.assertEqual(dict(zip(answer.nodes, answer.tables)), family)
                    self.assertEqual(answer.nodes, tuple(sorted(family)))
                    self.assertEqual(answer, answer_program(book, program, treatment))

    def test_the_results_are_not_for_the_asking(self):
        # A third of the books have three variables, so entry rows part many nodes.
        for rng, book, program in cases(72, 60, depth=1, variables=3):
            answer = answer_program(book, program, "entry")
            for node, table in zip(answer.nodes, answer.tables):
                self.assertTrue(row_at_most(book, node[1], table[0]))

    def test_deep_chains_and_many_nodes(self):
        procedures = [(f"p{at}", 1, (("call", f"p{at + 1}", (0,), 0), ADD)) for at in range(299)]
        program = Program([*procedures, ("p299", 1, ())])
        for treatment in TREATMENTS:
            answer = answer_program(parity_book(), program, treatment)
            self.assertEqual(len(answer.nodes), 300)
            first = ("p0", (1,) if treatment == "entry" else ())
            self.assertEqual(row_told(answer, first, 2), (2,))

    def test_errors_in_their_order(self):
        book = parity_book()
        strange = Program([("m", 1, (("deed", 0, ("set", 1)),))])
        self.assertEqual(error_of(answer_program, book, strange, "x", None), ("OtherAlphabet",))
        for treatment in ("x", None, ("callers", 0), ["callers", 4], True):
            self.assertEqual(error_of(answer_program, book, TWICE, treatment, None), ("BadTreatment",))
        for picks in (None, "0", {}, 3, (0,) * 61, (-1,), (True,), (0, None), ("1",)):
            self.assertEqual(error_of(answer_program, book, TWICE, "one", picks), ("BadPicks",))
        picks = [5] * 60
        self.assertIsNone(error_of(answer_program, book, TWICE, ["callers", 1], picks))
        self.assertEqual(picks, [5] * 60)

    def test_answers_are_results(self):
        node = ("m", ())
        answer = Answer("one", [node], [((1,),)], [(node, 0)])
        self.assertEqual((answer.nodes, answer.tables, answer.node_alarms), ((node,), (((1,),),), ((node, 0),)))
        self.assertEqual(answer, Answer("one", (node,), (((1,),),), ((node, 0),)))
        for other in (Answer("entry", (node,), (((1,),),), ((node, 0),)), Answer("one", (), (((1,),),), ((node, 0),)),
                      Answer("one", (node,), ((None,),), ((node, 0),)), Answer("one", (node,), (((1,),),), ()), 3):
            self.assertNotEqual(answer, other)


class AlarmTest(unittest.TestCase):
    def test_needs_that_alarm(self):
        need = ("need", 0, ("is", 0))
        program = Program([("main", 1, (need, ("call", "p", (0,), 0), ADD, ("call", "p", (0,), 0), need)),
                           ("p", 1, (need, ("if", 0, ("is", 0), (), ()), ("need", 0, ("below", 1))))])
        book = sign_book()
        answer = answer_program(book, program, "entry")
        self.assertEqual(answer.node_alarms, ((("p", (2,)), 0),))
        self.assertEqual(answer.alarm_places, (("p", 0),))
        answer = answer_program(book, program, ("callers", 1))
        self.assertEqual(answer.node_alarms, ((("p", (("main", 3),)), 0),))
        # Behind the need of p only Z is left, so the others are quiet.
        answer = answer_program(book, program, "one")
        self.assertEqual(answer.node_alarms, ((("p", ()), 0),))

    def test_places_without_duplicates(self):
        program = Program([("main", 1, (ADD, ("call", "p", (0,), 0), ADD, ADD, ("call", "p", (0,), 0))),
                           ("p", 1, (("need", 0, ("below", 1)), ("call", "q", (), 0))),
                           ("q", 1, (ADD, ("need", 0, ("is", 0))))])
        book = sign_book(so=((0, 1, 2, 3), (0, 1, 2, 3)))
        answer = answer_program(book, program, ("callers", 2))
        self.assertEqual(answer.alarm_places, (("p", 0), ("q", 1)))
        self.assertEqual(len(answer.node_alarms), 4)
        self.assertEqual(list(answer.node_alarms), sorted(answer.node_alarms))
        self.assertEqual(Answer("one", (), (), ((("q", ()), 3), (("p", ()), 1), (("p", (1,)), 1))).alarm_places,
                         (("p", 1), ("q", 3)))

    def test_all_alarms(self):
        for _, book, program in cases(73, 60):
            for treatment in TREATMENTS:
                answer = answer_program(book, program, treatment)
                want = []
                for node, table in zip(answer.nodes, answer.tables):
                    for place, (row, _) in enumerate(plain_places(rows_of(program, node[0]))):
                        if row[0] == "need" and table[place] is not None:
                            behind = book.not_so[book.tests.index(row[2])][table[place][row[1]]]
                            if behind != 0:
                                want.append((node, place))
                self.assertEqual(answer.node_alarms, tuple(want))
                self.assertEqual(answer.alarm_places, tuple(sorted({(node[0], at) for node, at in want})))


def rows_of(program, name):
    return {n: rows for n, _, rows in program.procedures}[name]


class QuestionTest(unittest.TestCase):
    def test_tables_rows_and_results(self):
        answer = answer_program(parity_book(), TWICE, "entry")
        self.assertEqual(table_of(answer, ("p", (2,))), ((2,), (1,)))
        self.assertEqual(row_told(answer, ("p", (2,)), 1), (1,))
        self.assertEqual(result_of(answer, ("p", (1,))), 2)
        for node in (("p", (3,)), ("q", (1,)), ("p", ())):
            self.assertIsNone(table_of(answer, node))
            self.assertIsNone(row_told(answer, node, 0))
            self.assertEqual(result_of(answer, node), 0)

    def test_joined_rows(self):
        book = parity_book()
        answer = answer_program(book, TWICE, "entry")
        self.assertEqual(joined_row(book, answer, "p", 0), (3,))
        self.assertEqual(joined_row(book, answer, "main", 1), (2,))
        self.assertIsNone(joined_row(book, answer, "q", 0))
        for _, book, program in cases(74, 40):
            answer = answer_program(book, program, "entry")
            for name, _, rows in program.procedures:
                for place in range(len(plain_places(rows)) + 1):
                    want = None
                    for node, table in zip(answer.nodes, answer.tables):
                        if node[0] == name:
                            want = join(book, want, table[place])
                    self.assertEqual(joined_row(book, answer, name, place), want)

    def test_asked_nodes(self):
        answer = answer_program(parity_book(), TWICE, "entry")
        self.assertEqual(asked_nodes(parity_book(), TWICE, answer, ("main", (1,))), (("p", (1,)), ("p", (2,))))
        self.assertEqual(asked_nodes(parity_book(), TWICE, answer, ("p", (1,))), ())
        self.assertEqual(asked_nodes(parity_book(), TWICE, answer, ("main", (2,))), ())
        one = answer_program(parity_book(), TWICE, "one")
        self.assertEqual(asked_nodes(parity_book(), TWICE, one, ("main", ())), (("p", ()),))
        # A call that no row comes to asks nothing.
        program = Program([("main", 1, (("stop",), CALL)), ("p", 1, ())])
        answer = answer_program(parity_book(), program, "one")
        self.assertEqual(answer.nodes, (("main", ()),))
        self.assertEqual(asked_nodes(parity_book(), program, answer, ("main", ())), ())

    def test_the_family_is_what_is_asked(self):
        for _, book, program in cases(75, 60):
            for treatment in TREATMENTS:
                answer = answer_program(book, program, treatment)
                found = [(program.main, first_key(book, treatment, program))]
                for node in found:
                    found.extend(asked for asked in asked_nodes(book, program, answer, node)
                                 if asked not in found)
                self.assertEqual(tuple(sorted(found)), answer.nodes)


class WayTest(unittest.TestCase):
    def program(self):
        return Program([("main", 1, (CALL, ("if", 0, ("is", 0), (CALL,), (("call", "q", (), 0),)))),
                        ("p", 1, (ADD, ("call", "q", (0,), 0), ("call", "p", (0,), 0))), ("q", 1, (("stop",),))])

    def test_nodes_behind_calls(self):
        book = sign_book()
        program = self.program()
        entry = answer_program(book, program, "entry")
        self.assertEqual(node_of_calls(book, program, entry, ()), ("main", (1,)))
        self.assertEqual(node_of_calls(book, program, entry, [["main", 0]]), ("p", (1,)))
        self.assertEqual(node_of_calls(book, program, entry, (("main", 0), ("p", 1))), ("q", (2,)))
        # q never comes back.
        self.assertIsNone(node_of_calls(book, program, entry, (("main", 0), ("p", 2))))
        self.assertIsNone(node_of_calls(book, program, entry, (("main", 0), ("p", 2), ("p", 1))))
        self.assertIsNone(node_of_calls(book, program, entry, (("main", 2),)))
        one = answer_program(book, program, "one")
        self.assertEqual(node_of_calls(book, program, one, (("main", 0), ("p", 1))), ("q", ()))
        two = answer_program(book, program, ("callers", 1))
        self.assertEqual(node_of_calls(book, program, two, (("main", 0), ("p", 1))), ("q", (("p", 1),)))

    def test_wrong_ways(self):
        book = sign_book()
        program = self.program()
        answer = answer_program(book, program, "entry")
        for calls in (None, "main", {}, 3):
            self.assertEqual(error_of(node_of_calls, book, program, answer, calls), ("BadCalls", -1))
        good = ("main", 0)
        for item in (None, "main", (), ("main",), ("main", 0, 0), ("main", 1), ("p", 3), ("p", 0), ("main", 0),
                     ("q", 0), ("p", -1), ("p", True), ("p", None), (1, "p"), {}, ("p", 99), ("x", 0)):
            self.assertEqual(error_of(node_of_calls, book, program, answer, (good, item)), ("BadCalls", 1), item)
            self.assertEqual(error_of(node_of_calls, book, program, answer, [good, ["p", 1], item]),
                             ("BadCalls", 2), item)
        # Wrong items are told even behind a row that is None, and the first one first.
        self.assertEqual(error_of(node_of_calls, book, program, answer, (("main", 3), ("p", 1))), ("BadCalls", 1))
        self.assertEqual(error_of(node_of_calls, book, program, answer, (("p", 1), None)), ("BadCalls", 0))
        self.assertEqual(error_of(node_of_calls, book, program, answer, (("main", 3), ("q", 0))), ("BadCalls", 1))

    def test_what_always_holds(self):
        for _, book, program in cases(76, 80, depth=1):
            answers = [answer_program(book, program, treatment) for treatment in TREATMENTS]
            for calls in ways_of(program):
                nodes = [node_of_calls(book, program, answer, calls) for answer in answers]
                if nodes[0] is None:
                    continue
                for place in range(len(plain_places(rows_of(program, nodes[0][0]))) + 1):
                    rows = [row_told(answer, node, place) for answer, node in zip(answers, nodes)]
                    for node, answer in zip(nodes, answers):
                        self.assertIn(node, answer.nodes)
                    for one, other in zip(rows, rows[1:]):
                        self.assertTrue(row_at_most(book, one, other))
            for one, other in zip(answers, answers[1:]):
                self.assertLessEqual(set(one.alarm_places), set(other.alarm_places))
                for name, _, rows in program.procedures:
                    for place in range(len(plain_places(rows)) + 1):
                        self.assertTrue(row_at_most(book, joined_row(book, one, name, place),
                                                    joined_row(book, other, name, place)))

    def test_higher_keys_have_higher_tables(self):
        compared = 0
        for _, book, program in cases(77, 300, depth=1):
            answer = answer_program(book, program, "entry")
            for one in answer.nodes:
                for other in answer.nodes:
                    if one[0] == other[0] and row_at_most(book, one[1], other[1]):
                        compared += one != other
                        for a, b in zip(table_of(answer, one), table_of(answer, other)):
                            self.assertTrue(row_at_most(book, a, b))
        self.assertGreater(compared, 20)

    def test_ways_lead_to_the_keys(self):
        for _, book, program in cases(78, 40, depth=1):
            for treatment in TREATMENTS:
                answer = answer_program(book, program, treatment)
                for calls in ways_of(program):
                    node = node_of_calls(book, program, answer, calls)
                    if node is not None and treatment[0] == "callers":
                        self.assertEqual(node[1], tuple(calls[-treatment[1]:]))
                    if node is not None and calls and treatment == "entry":
                        elder = node_of_calls(book, program, answer, calls[:-1])
                        row = row_told(answer, elder, calls[-1][1])
                        call = plain_places(rows_of(program, elder[0]))[calls[-1][1]][0]
                        many = {n: v for n, v, _ in program.procedures}[node[0]]
                        self.assertEqual(node, (call[1], entry_row(book, call[2], row, many)))


def ways_of(program, longest=3):
    """All ways of at most so many call places, but not very many."""
    ways = [((), program.main)]
    for calls, name in ways:
        if len(calls) < longest and len(ways) < 60:
            for place, (row, _) in enumerate(plain_places(rows_of(program, name))):
                if row[0] == "call":
                    ways.append((calls + ((name, place),), row[1]))
    return [calls for calls, _ in ways]


if __name__ == "__main__":
    unittest.main()
