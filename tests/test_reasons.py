"""Lines of reasons, and the judges of lines, tables and answers [9.1] to [9.7]."""

import random
import unittest

from randoms import random_book, random_program
from support import error_of, parity_book, sign_book
from truebooks.calls import Answer, answer_program
from truebooks.programs import Program
from truebooks.reasons import find_line, lines_under, reasons_of
from truebooks.tablejudge import judge_answer, judge_reasons, judge_table

TREATMENTS = ("entry", ("callers", 3), ("callers", 2), ("callers", 1), "one")
ADD = ("deed", 0, ("add", 1))
TEST = ("below", 9)


def nine_book():
    """The example book with a test that keeps every word."""
    return parity_book(tests=(TEST,), so=((0, 1, 2, 3),), not_so=((0, 1, 2, 3),))


def loop_program():
    """The example of part 9."""
    return Program([("main", 1, (("while", 0, TEST, (("call", "f", (0,), 0),)),)), ("f", 1, (ADD,))])


def cases(seed, many):
    rng = random.Random(seed)
    for _ in range(many):
        book = random_book(rng, nones=rng.choice((0, 0.2, 0.5)))
        yield rng, book, random_program(rng, book, procedures=rng.randint(1, 4), depth=rng.randint(0, 2))


# Good lines for the example by "entry", written by hand.
MAIN = ("main", (1,))
LOW = ("f", (1,))
HIGH = ("f", (3,))
BY_HAND = (
    (MAIN, 0, (1,), ("start",)),
    (MAIN, 1, (1,), ("arrow", 0, 0)),
    (LOW, 0, (1,), ("called", 1)),
    (LOW, 1, (2,), ("arrow", 2, 0)),
    (MAIN, 0, (2,), ("back", 1, 3)),
    (MAIN, 0, (3,), ("join", 0, 4)),
    (MAIN, 2, (3,), ("arrow", 5, 1)),
    (MAIN, 1, (3,), ("arrow", 5, 0)),
    (HIGH, 0, (3,), ("called", 7)),
    (HIGH, 1, (3,), ("arrow", 8, 0)),
)


class ReasonsTest(unittest.TestCase):
    def test_lines_tell_everything(self):
        for _, book, program in cases(91, 60):
            for treatment in TREATMENTS:
                lines = reasons_of(book, program, treatment)
                self.assertIsInstance(lines, tuple)
                answer = answer_program(book, program, treatment)
                told = [line[:3] for line in lines]
                self.assertEqual(len(set(told)), len(told))
                for node, table in zip(answer.nodes, answer.tables):
                    for place, row in enumerate(table):
                        self.assertTrue(row is None or (node, place, row) in told)
                self.assertIsNone(judge_reasons(book, program, treatment, lines))
                self.assertEqual(reasons_of(book, program, treatment), lines)

    def test_the_example(self):
        lines = reasons_of(nine_book(), loop_program(), "entry")
        self.assertIn((MAIN, 0, (3,)), [line[:3] for line in lines])
        self.assertIn(LOW, [line[0] for line in lines])
        self.assertIsNone(judge_reasons(nine_book(), loop_program(), "entry", lines))

    def test_errors(self):
        strange = Program([("m", 1, (("need", 0, ("is", 0)),))])
        self.assertEqual(error_of(reasons_of, parity_book(), strange, "x"), ("OtherAlphabet",))
        for treatment in (None, "x", ("callers", 0), ["callers", True], ("one",)):
            self.assertEqual(error_of(reasons_of, nine_book(), loop_program(), treatment), ("BadTreatment",))
        self.assertEqual(reasons_of(nine_book(), loop_program(), ["callers", 1]),
                         reasons_of(nine_book(), loop_program(), ("callers", 1)))

    def test_find_line(self):
        self.assertEqual(find_line(BY_HAND, MAIN, 0, (3,)), 5)
        self.assertEqual(find_line(list(BY_HAND) + [BY_HAND[5]], MAIN, 0, (3,)), 5)
        for node, place, row in ((MAIN, 0, None), (HIGH, 0, (1,)), (MAIN, 3, (3,)), (("f", ()), 0, (1,))):
            self.assertIsNone(find_line(BY_HAND, node, place, row))
        self.assertIsNone(find_line((), MAIN, 0, (1,)))

    def test_lines_under(self):
        self.assertEqual(lines_under(BY_HAND, 0), (0,))
        self.assertEqual(lines_under(BY_HAND, 3), (0, 1, 2, 3))
        self.assertEqual(lines_under(BY_HAND, 6), (0, 1, 2, 3, 4, 5, 6))
        self.assertEqual(lines_under(BY_HAND, 9), (0, 1, 2, 3, 4, 5, 7, 8, 9))
        # The second number of an arrow is no line.
        lines = ((MAIN, 0, (1,), ("start",)), (MAIN, 0, (1,), ("start",)), (MAIN, 2, (1,), ("arrow", 0, 1)))
        self.assertEqual(lines_under(lines, 2), (0, 2))

    def test_lines_under_real_ones(self):
        for rng, book, program in cases(92, 30):
            lines = reasons_of(book, program, rng.choice(TREATMENTS))
            number = rng.randrange(len(lines))
            under = lines_under(lines, number)
            self.assertEqual(list(under), sorted(set(under)))
            want = {number}
            for at in range(number, -1, -1):
                if at in want:
                    why = lines[at][3]
                    want.update(why[1:2] if why[0] == "arrow" else why[1:])
            self.assertEqual(set(under), want)


class JudgeReasonsTest(unittest.TestCase):
    def judge(self, *lines, treatment="entry"):
        return judge_reasons(nine_book(), loop_program(), treatment, lines)

    def test_good_lines(self):
        self.assertIsNone(self.judge(*BY_HAND))
        self.assertIsNone(self.judge())
        self.assertIsNone(judge_reasons(nine_book(), loop_program(), "entry", list(BY_HAND)))
        # A line may stand twice.
        self.assertIsNone(self.judge(*BY_HAND, BY_HAND[5]))

    def test_no_sequence(self):
        for lines in (None, 3, "x", {}):
            self.assertEqual(judge_reasons(nine_book(), loop_program(), "one", lines), -1)

    def assert_wrong(self, at, *lines):
        for line in lines:
            changed = (*BY_HAND[:at], line, *BY_HAND[at + 1:])
            self.assertEqual(self.judge(*changed), at, line)

    def test_forms(self):
        good = BY_HAND[0]
        self.assert_wrong(0, 0, "start", (), good[:3], (*good, 0), (MAIN, 0, (1,), ()), (MAIN, 0, (1,), "start"),
                          (MAIN, 0, (1,), ("begin",)), (MAIN, 0, (1,), ("start", 0)), (MAIN, 0, (1,), (0,)),
                          (MAIN, 0, (1,), 0), (MAIN, 0, (1,), (("start",),)))
        self.assert_wrong(1, (MAIN, 1, (1,), ("arrow", 0)), (MAIN, 1, (1,), ("arrow", 0, 0, 0)),
                          (MAIN, 1, (1,), ("arrow", "0", 0)), (MAIN, 1, (1,), ("arrow", 0, "0")))
        self.assert_wrong(2, (LOW, 0, (1,), ("called",)), (LOW, 0, (1,), ("called", 1, 0)))
        self.assert_wrong(4, (MAIN, 0, (2,), ("back", 1)), (MAIN, 0, (2,), ("back", 1, 3, 0)))
        self.assert_wrong(5, (MAIN, 0, (3,), ("join", 0)), (MAIN, 0, (3,), ("join", 0, 4, 0)))

    def test_what_is_not_there(self):
        self.assert_wrong(0, (("x", (1,)), 0, (1,), ("start",)), ("main", 0, (1,), ("start",)),
                          (("main",), 0, (1,), ("start",)), (MAIN, 3, (1,), ("start",)),
                          (MAIN, -1, (1,), ("start",)), (MAIN, "0", (1,), ("start",)), (MAIN, 0, (), ("start",)),
                          (MAIN, 0, (1, 1), ("start",)), (MAIN, 0, (0,), ("start",)), (MAIN, 0, (4,), ("start",)),
                          (MAIN, 0, 1, ("start",)), (MAIN, 0, ("1",), ("start",)), ((1, (1,)), 0, (1,), ("start",)),
                          (MAIN, False, (1,), ("start",)), (MAIN, 0, (True,), ("start",)),
                          (((), (1,)), 0, (1,), ("start",)), ((*MAIN, 0), 0, (1,), ("start",)))
        self.assert_wrong(1, (MAIN, True, (1,), ("arrow", 0, 0)), (MAIN, 1, (1,), ("arrow", False, 0)),
                          (MAIN, 1, (1,), ("arrow", 0, False)))

    def test_numbers_of_lines(self):
        self.assert_wrong(1, (MAIN, 1, (1,), ("arrow", 1, 0)), (MAIN, 1, (1,), ("arrow", -1, 0)),
                          (MAIN, 1, (1,), ("arrow", 5, 0)))
        self.assert_wrong(5, (MAIN, 0, (3,), ("join", 0, 5)), (MAIN, 0, (3,), ("join", 5, 4)),
                          (MAIN, 0, (3,), ("join", -1, 4)))
        self.assert_wrong(4, (MAIN, 0, (2,), ("back", 1, 9)), (MAIN, 0, (2,), ("back", 4, 3)))
        self.assert_wrong(2, (LOW, 0, (1,), ("called", 2)))

    def test_start(self):
        self.assert_wrong(0, (MAIN, 0, (2,), ("start",)), (MAIN, 1, (1,), ("start",)), (LOW, 0, (1,), ("start",)),
                          (("main", (3,)), 0, (1,), ("start",)), (("main", ()), 0, (1,), ("start",)))

    def test_arrow(self):
        self.assert_wrong(1, (MAIN, 2, (1,), ("arrow", 0, 0)), (MAIN, 1, (2,), ("arrow", 0, 0)),
                          (LOW, 1, (1,), ("arrow", 0, 0)), (MAIN, 1, (1,), ("arrow", 0, 1)),
                          (MAIN, 1, (1,), ("arrow", 0, 2)), (MAIN, 1, (1,), ("arrow", 0, -1)))
        # Line 1 stands at a call, line 3 at END.
        self.assert_wrong(4, (MAIN, 0, (1,), ("arrow", 1, 0)), (LOW, 1, (2,), ("arrow", 3, 0)))
        book = sign_book()
        program = Program([("m", 1, (("need", 0, ("is", 0)),))])
        start = (("m", (1,)), 0, (1,), ("start",))
        self.assertIsNone(judge_reasons(book, program, "entry", [start, (("m", (1,)), 1, (1,), ("arrow", 0, 0))]))

    def test_join(self):
        self.assert_wrong(5, (MAIN, 0, (2,), ("join", 0, 4)), (MAIN, 1, (3,), ("join", 0, 4)),
                          (MAIN, 0, (1,), ("join", 0, 1)), (MAIN, 0, (1,), ("join", 0, 2)),
                          (LOW, 0, (3,), ("join", 0, 4)), (MAIN, 0, (3,), ("join", 2, 4)))
        self.assertIsNone(self.judge(*BY_HAND[:5], (MAIN, 0, (2,), ("join", 4, 4))))

    def test_called(self):
        self.assert_wrong(2, (HIGH, 0, (1,), ("called", 1)), (LOW, 0, (3,), ("called", 1)),
                          (LOW, 1, (1,), ("called", 1)), (LOW, 0, (1,), ("called", 0)),
                          (("main", (1,)), 0, (1,), ("called", 1)), (("f", ()), 0, (1,), ("called", 1)))

    def test_back(self):
        # Line 2 is not at END, line 0 not at a call, line 9 has another key.
        self.assert_wrong(4, (MAIN, 0, (1,), ("back", 1, 2)), (MAIN, 0, (2,), ("back", 0, 3)),
                          (MAIN, 0, (1,), ("back", 1, 3)), (MAIN, 2, (2,), ("back", 1, 3)),
                          (LOW, 0, (2,), ("back", 1, 3)), (MAIN, 0, (2,), ("back", 3, 1)))
        self.assertEqual(self.judge(*BY_HAND, (MAIN, 0, (3,), ("back", 1, 9))), 10)
        self.assertEqual(self.judge(*BY_HAND, (MAIN, 0, (2,), ("back", 7, 3))), 10)
        self.assertIsNone(self.judge(*BY_HAND, (MAIN, 0, (3,), ("back", 7, 9))))

    def test_keys_of_the_treatment(self):
        node = ("main", ())
        callee = ("f", (("main", 1),))
        lines = ((node, 0, (1,), ("start",)), (node, 1, (1,), ("arrow", 0, 0)), (callee, 0, (1,), ("called", 1)),
                 (callee, 1, (2,), ("arrow", 2, 0)), (node, 0, (2,), ("back", 1, 3)))
        for treatment in TREATMENTS[1:4]:
            self.assertIsNone(self.judge(*lines, treatment=treatment))
        self.assertEqual(self.judge(*lines, treatment="one"), 2)
        self.assertEqual(self.judge(*lines, treatment="entry"), 0)

    def test_changed_lines_of_real_ones(self):
        changed = 0
        for rng, book, program in cases(93, 60):
            treatment = rng.choice(TREATMENTS)
            lines = list(reasons_of(book, program, treatment))
            at = rng.randrange(len(lines))
            node, place, row, why = lines[at]
            word = rng.randrange(1, book.many)
            wrong = [(node, place + 1, row, why), (node, place, row[:-1], why), (("zz", node[1]), place, row, why),
                     (node, place, (word,) * len(row), why), (node, place, row, why[:-1]),
                     (node, place, row, (*why[:-1], at)), node]
            line = rng.choice(wrong)
            if line != lines[at] and not (line[3:] == (why,) and line[:3] == lines[at][:3]):
                lines[at] = line
                told = judge_reasons(book, program, treatment, lines)
                # Another arrow may tell the same; a changed row never does.
                if line[-1] == why or line == node:
                    self.assertEqual(told, at)
                    changed += 1
        self.assertGreater(changed, 30)


def changed_answer(answer, **changes):
    parts = {"treatment": answer.treatment, "nodes": answer.nodes, "tables": answer.tables,
             "node_alarms": answer.node_alarms}
    parts.update(changes)
    return Answer(**parts)


def with_row(answer, node, place, row):
    tables = []
    for told, table in zip(answer.nodes, answer.tables):
        if told == node:
            table = table[:place] + (row,) + table[place + 1:]
        tables.append(table)
    return changed_answer(answer, tables=tables)


class JudgeTableTest(unittest.TestCase):
    def setUp(self):
        self.answer = answer_program(nine_book(), loop_program(), "entry")

    def judge(self, answer):
        return judge_table(nine_book(), loop_program(), answer)

    def test_closed_tables(self):
        self.assertIsNone(self.judge(self.answer))
        for _, book, program in cases(94, 40):
            for treatment in TREATMENTS:
                self.assertIsNone(judge_table(book, program, answer_program(book, program, treatment)))

    def test_the_order_of_asking(self):
        self.assertEqual(self.answer.nodes, (HIGH, MAIN))
        self.assertEqual(self.judge(changed_answer(self.answer, nodes=(HIGH,), tables=self.answer.tables[:1])),
                         (MAIN, 0))
        self.assertEqual(self.judge(changed_answer(self.answer, nodes=(MAIN,), tables=self.answer.tables[1:])),
                         (HIGH, 0))
        self.assertEqual(self.judge(with_row(self.answer, MAIN, 0, None)), (MAIN, 0))
        self.assertEqual(self.judge(with_row(self.answer, MAIN, 0, (2,))), (MAIN, 0))
        # What f's table misses comes ahead of what main's does, as f stands first.
        self.assertEqual(self.judge(with_row(with_row(self.answer, HIGH, 1, (2,)), MAIN, 2, None)), (HIGH, 1))
        self.assertEqual(self.judge(with_row(self.answer, HIGH, 0, (1,))), (HIGH, 0))
        self.assertEqual(self.judge(with_row(self.answer, HIGH, 0, None)), (HIGH, 0))
        # The arrows of a place in order: 1 ahead of 2.
        self.assertEqual(self.judge(with_row(with_row(self.answer, MAIN, 1, (1,)), MAIN, 2, (1,))), (MAIN, 1))
        self.assertEqual(self.judge(with_row(self.answer, MAIN, 2, (2,))), (MAIN, 2))
        # With (1,) at 0 the call's target misses what comes back.
        low = with_row(self.answer, MAIN, 0, (1,))
        self.assertEqual(self.judge(low), (MAIN, 0))
        # At a call the callee's entry is asked for ahead of the target.
        both = with_row(with_row(low, HIGH, 0, (1,)), HIGH, 1, (3,))
        self.assertEqual(self.judge(both), (HIGH, 0))
        swapped = changed_answer(both, nodes=both.nodes[::-1], tables=both.tables[::-1])
        self.assertEqual(self.judge(swapped), (HIGH, 0))

    def test_a_result_of_none(self):
        # Nothing comes back from f, so the target of the call need not have anything.
        none = with_row(with_row(self.answer, HIGH, 1, None), MAIN, 0, (1,))
        self.assertEqual(self.judge(none), (HIGH, 1))
        stop = Program([("main", 1, (("call", "f", (0,), 0),)), ("f", 1, (("stop",),))])
        answer = answer_program(nine_book(), stop, "one")
        self.assertIsNone(judge_table(nine_book(), stop, answer))
        self.assertIsNone(judge_table(nine_book(), stop, with_row(answer, ("main", ()), 1, (2,))))

    def test_more_than_the_least(self):
        for place in range(3):
            self.assertIsNone(self.judge(with_row(self.answer, MAIN, place, (3,))))
        more = changed_answer(self.answer, nodes=(LOW, HIGH, MAIN), tables=(((1,), (2,)),) + self.answer.tables)
        self.assertIsNone(self.judge(more))
        less = changed_answer(self.answer, nodes=(LOW, HIGH, MAIN), tables=(((1,), None),) + self.answer.tables)
        self.assertEqual(self.judge(less), (LOW, 1))


class JudgeAnswerTest(unittest.TestCase):
    def setUp(self):
        self.answer = answer_program(nine_book(), loop_program(), "entry")

    def judge(self, answer, lines=BY_HAND):
        return judge_answer(nine_book(), loop_program(), answer, lines)

    def test_right_answers(self):
        self.assertIsNone(self.judge(self.answer))
        for _, book, program in cases(95, 60):
            for treatment in TREATMENTS:
                answer = answer_program(book, program, treatment)
                self.assertIsNone(judge_answer(book, program, answer, reasons_of(book, program, treatment)))

    def test_words_in_order(self):
        alarm = ((MAIN, 0),)
        wrong = with_row(changed_answer(self.answer, node_alarms=alarm), MAIN, 2, None)
        self.assertEqual(self.judge(wrong, None), "table")
        extra = changed_answer(self.answer, nodes=(LOW, HIGH, MAIN), node_alarms=alarm,
                               tables=(((1,), (2,)),) + self.answer.tables)
        self.assertEqual(self.judge(extra, None), "nodes")
        turned = changed_answer(self.answer, nodes=(MAIN, HIGH), tables=self.answer.tables[::-1])
        self.assertEqual(self.judge(turned), "nodes")
        alarmed = changed_answer(self.answer, node_alarms=alarm)
        self.assertEqual(self.judge(alarmed, None), "reasons")
        self.assertEqual(self.judge(alarmed, BY_HAND[1:]), "reasons")
        self.assertEqual(self.judge(alarmed, BY_HAND[:9]), "told")
        self.assertEqual(self.judge(alarmed, ()), "told")
        self.assertEqual(self.judge(alarmed), "alarms")
        # The row at END of main is told by line 6 alone, though line 5 has an equal one.
        self.assertEqual(self.judge(self.answer, (*BY_HAND[:6], (MAIN, 1, (3,), ("arrow", 5, 0)),
                                                  (HIGH, 0, (3,), ("called", 6)),
                                                  (HIGH, 1, (3,), ("arrow", 7, 0)))), "told")

    def test_alarms(self):
        book = sign_book()
        program = Program([("m", 1, (ADD, ("need", 0, ("is", 0)), ("need", 0, ("is", 0))))])
        answer = answer_program(book, program, "one")
        lines = reasons_of(book, program, "one")
        self.assertEqual(answer.node_alarms, ((("m", ()), 1),))
        self.assertIsNone(judge_answer(book, program, answer, lines))
        for alarms in ((), answer.node_alarms * 2, ((("m", ()), 2),)):
            self.assertEqual(judge_answer(book, program, changed_answer(answer, node_alarms=alarms), lines), "alarms")

    def test_closed_families_above_the_least_one(self):
        refused = 0
        for rng, book, program in cases(96, 150):
            treatment = rng.choice(TREATMENTS[1:])
            answer = answer_program(book, program, treatment)
            lines = reasons_of(book, program, treatment)
            variables = {name: many for name, many, _ in program.procedures}
            tops = [tuple((book.top,) * variables[node[0]] for _ in table)
                    for node, table in zip(answer.nodes, answer.tables)]
            if tuple(tops) == answer.tables:
                continue
            higher = changed_answer(answer, tables=tops)
            word = judge_answer(book, program, higher, lines)
            self.assertIn(word, ("nodes", "told", "table"))
            refused += word == "told"
            other = reasons_of(book, program, "entry")
            self.assertIsNotNone(judge_answer(book, program, higher, other))
        self.assertGreater(refused, 20)

    def test_a_loop_above_the_least_one(self):
        # With 3 in all places the loop of the second program holds itself up there.
        book = nine_book()
        program = Program([("m", 1, (("while", 0, TEST, ()),))])
        answer = answer_program(book, program, "one")
        higher = changed_answer(answer, tables=[((3,), (3,))])
        self.assertIsNone(judge_table(book, program, higher))
        node = ("m", ())
        lines = [(node, 0, (1,), ("start",)), (node, 0, (3,), ("arrow", 1, 0)), (node, 1, (3,), ("arrow", 1, 1))]
        self.assertEqual(judge_answer(book, program, higher, lines), "reasons")
        self.assertEqual(judge_answer(book, program, higher, lines[:1]), "told")


if __name__ == "__main__":
    unittest.main()
