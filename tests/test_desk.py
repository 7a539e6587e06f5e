"""The desk and its reports [16.3] to [16.7]."""

import inspect
import random
import unittest

from randoms import random_book, random_program
from support import TREATMENTS, error_of, evens, parity_book, ring_book, sign_book
from truebooks.calls import answer_program
from truebooks.desk import Desk, Report, report_of
from truebooks.edits import edit_program
from truebooks.fits import first_leaving
from truebooks.lies import Lies, verdict
from truebooks.lots import empty_lot, just_lot, whole_lot
from truebooks.programs import Program
from truebooks.programtext import write_program
from truebooks.runs import run_program
from truebooks.stories import play_story
from truebooks.tables import raised_book

ADD = ("deed", 0, ("add", 1))
CALL = ("call", "p", (0,), 0)
TWICE = Program([("main", 1, (CALL, CALL)), ("p", 1, (ADD,))])
OTHER = "procedure main 1\ndeed 0 add 1\n"


def state_of(desk):
    return (desk.book, desk.program, desk.treatment, desk.picks, desk.log, desk.in_force)


def raises_of(rng, book):
    """Random raises, most often such that raised_book lets."""
    raises = ()
    for _ in range(40):
        kind = rng.choice(("deed", "so", "not"))
        table = {"deed": book.deeds, "so": book.so, "not": book.not_so}[kind]
        at, word = rng.randrange(len(table)), rng.randrange(1, book.many)
        raises = ((kind, at, word, book.joins[table[at][word]][rng.randrange(book.many)]),)
        if error_of(raised_book, book, raises) is None:
            break
    return raises


def random_deed(rng, desk):
    """A deed that often can be done."""
    kind = rng.choice(("program", "edit", "edit", "treat", "order", "raise", "back", "back", "wrong"))
    if kind == "program":
        return ("program", write_program(random_program(rng, desk.book)))
    if kind == "edit":
        name, variables, rows = rng.choice(desk.program.procedures)
        fresh = random_program(rng, desk.book, procedures=1).procedures[0][2]
        edit = rng.choice((("row", name, 0, fresh[0]), ("put", name, rng.randint(0, len(rows)), fresh[0]),
                           ("strike", name, rng.randint(0, 2)), ("first", name), ("drop", name),
                           ("unit", ((name, variables, rows), ("new", 1, ())))))
        return ("edit", rng.choice(((edit,), [list(edit)], (edit, ("first", name)))))
    if kind == "treat":
        return ["treat", rng.choice((*TREATMENTS, ["callers", 2]))]
    if kind == "order":
        return ("order", [rng.randrange(9) for _ in range(rng.randint(0, 3))])
    if kind == "raise":
        return ("raise", raises_of(rng, desk.book))
    if kind == "back":
        return rng.choice((("back",), ["back"]))
    return rng.choice((None, ("back", 1), ("treat", "two"), ("order", (-1,)), ("raise", ((),)), ("edit", 3),
                       ("program", "deed"), ("edit", (("drop", "nobody"),)), ("program", "procedure m 1\ndeed 0 set 19\n")))


def told_by(desk):
    """All that a desk tells, but its log."""
    return (desk.book, desk.program, desk.treatment, desk.picks, desk.in_force, desk.work_out(),
            desk.told_verdict(), desk.run_here((1, 0), 30), desk.leaving_here((1, 0), 30), report_of(desk))


class DeedTest(unittest.TestCase):
    def test_a_new_desk(self):
        desk = Desk(parity_book(), TWICE, ["callers", 2])
        self.assertEqual(state_of(desk), (parity_book(), TWICE, ("callers", 2), (), (), ()))
        self.assertEqual(set(vars(desk)) >= {"book", "program", "treatment", "picks", "log", "in_force"}, True)
        strange = Program([("m", 1, (("deed", 0, ("set", 1)),))])
        self.assertEqual(error_of(Desk, parity_book(), strange, "x"), ("OtherAlphabet",))
        for treatment in ("x", None, ("callers", 4), True):
            self.assertEqual(error_of(Desk, parity_book(), TWICE, treatment), ("BadTreatment",))

    def test_each_kind_and_back(self):
        desk = Desk(parity_book(), TWICE, "entry")
        states = [state_of(desk)[:4]]
        deeds = (
            (("program", OTHER), ("program", OTHER)),
            (["edit", [["put", "main", 0, ["either", [ADD], []]]]], ("edit", (("put", "main", 0, ("either", (ADD,), ())),))),
            (("treat", ["callers", 3]), ("treat", ("callers", 3))), (["treat", "one"], ("treat", "one")),
            (("order", [1, 2]), ("order", (1, 2))),
            (["raise", [["deed", 1, 1, 3], ["deed", 1, 2, 3]]], ("raise", (("deed", 1, 1, 3), ("deed", 1, 2, 3)))),
        )
        kept = ()
        for deed, done in deeds:
            self.assertIsNone(desk.do_deed(deed))
            kept += (done,)
            self.assertEqual((desk.log, desk.in_force), (kept, kept))
            states.append(state_of(desk)[:4])
        self.assertEqual(desk.program.procedures, (("main", 1, (("either", (ADD,), ()), ADD)),))
        self.assertEqual(desk.book, raised_book(parity_book(), kept[-1][1]))
        self.assertEqual((desk.treatment, desk.picks), ("one", (1, 2)))
        for many in range(1, 7):
            desk.do_deed(("back",))
            self.assertEqual(state_of(desk)[:4], states[6 - many])
            self.assertEqual(desk.in_force, kept[:6 - many])
            self.assertEqual(desk.log, kept + (("back",),) * many)
        self.assertEqual(error_of(desk.do_deed, ("back",)), ("NothingBack",))
        self.assertEqual(len(desk.log), 12)

    def test_what_is_passed_in_is_not_kept(self):
        desk = Desk(parity_book(), TWICE, "entry")
        row = ["either", [list(ADD)], []]
        edits = [["put", "main", 0, row]]
        unit = ["unit", [["q", 1, [row]]]]
        picks = [4, 5]
        raises = [["deed", 1, 1, 3], ["deed", 1, 2, 3]]
        for deed in (["edit", edits], ["edit", [unit]], ["order", picks], ["raise", raises]):
            desk.do_deed(deed)
        before = repr((desk.log, desk.in_force, desk.picks, desk.program.procedures))
        row[1].clear()
        edits.clear()
        unit[1].clear()
        picks.append(6)
        raises[0][3] = 0
        self.assertEqual(repr((desk.log, desk.in_force, desk.picks, desk.program.procedures)), before)
        self.assertNotIn("[", before)
        self.assertEqual(desk.log[1], ("edit", (("unit", (("q", 1, (("either", (ADD,), ()),)),)),)))

    def test_bad_deeds(self):
        desk = Desk(parity_book(), TWICE, "entry")
        for deed in (None, (), [], "back", 3, {}, ("back", 0), ("treat",), ("treat", "one", 1), ("order",), ("undo",),
                     ("Back",), (None,), (["back"],), ("program", OTHER, 1), ("edit",), ("raise",), ("raise", (), ()),
                     (1, 2), {"back": 1}):
            self.assertEqual(error_of(desk.do_deed, deed), ("BadDeed",), deed)

    def test_the_errors_of_each_kind(self):
        desk = Desk(parity_book(), TWICE, "entry")
        desk.do_deed(("order", (1,)))
        before = state_of(desk)
        strange = "procedure main 1\ndeed 0 set 19\n"
        cases = (
            (("program", None), ("BadText", 0, "text")), (("program", "procedure main 1"), ("BadText", 0, "text")),
            (("program", "procedure main 1\nx\n"), ("BadText", 2, "line")), (("program", ""), ("BadProgram", "", -1, "many")),
            (("program", "procedure main 1\ndeed 0 set 99\n"), ("BadProgram", "main", 0, "letter")),
            (("program", strange), ("OtherAlphabet",)),
            (("edit", None), ("BadEdit", -1, "edits")), (("edit", (3,)), ("BadEdit", 0, "form")),
            (("edit", (("first", "p"), ("drop", "q"))), ("BadEdit", 1, "name")),
            (("edit", (("strike", "p", 1),)), ("BadEdit", 0, "place")),
            (("edit", (("drop", "p"),)), ("BadEdit", 0, "program")),
            (("edit", (("row", "p", 0, ("deed", 0, ("set", 19))),)), ("OtherAlphabet",)),
            (("treat", None), ("BadTreatment",)), (("treat", ("callers", 0)), ("BadTreatment",)),
            (("order", None), ("BadPicks",)), (("order", (0,) * 61), ("BadPicks",)), (("order", (True,)), ("BadPicks",)),
            (("raise", None), ("BadRaise", -1)), (("raise", (("deed", 1, 1, 3), ("deed", 1, 1, 3))), ("BadRaise", 1)),
            (("raise", (("deed", 1, 3, 3),)), ("BadRaise", 0)), (("raise", (("deed", 1, 1, 0),)), ("BadRaise", 0)),
            (("raise", [None]), ("BadRaise", 0)),
        )
        for deed, error in cases:
            self.assertEqual(error_of(desk.do_deed, deed), error, deed)
            self.assertEqual(state_of(desk), before)
        desk.do_deed(("back",))
        before = state_of(desk)
        self.assertEqual(error_of(desk.do_deed, ["back"]), ("NothingBack",))
        self.assertEqual(state_of(desk), before)
        # No row that comes out may fall.
        book = parity_book(deeds=((0, 1, 1, 1), (0, 0, 1, 3)))
        desk = Desk(book, TWICE, "one")
        self.assertEqual(error_of(desk.do_deed, ("raise", (("deed", 1, 2, 3),))), None)
        self.assertEqual(error_of(Desk(parity_book(deeds=((0, 1, 1, 1), (0, 1, 1, 1))), TWICE, "one").do_deed,
                                  ("raise", (("deed", 1, 1, 3),))), ("BadRaise", -1))

    def test_a_program_that_a_raised_book_keeps(self):
        # Deeds of no effect count, too.
        desk = Desk(parity_book(), TWICE, "entry")
        for deed in (("edit", ()), ("raise", ()), ("order", ()), ("treat", "entry"), ("program", write_program(TWICE))):
            desk.do_deed(deed)
        self.assertEqual(len(desk.in_force), 5)
        self.assertEqual(state_of(desk)[:4], (parity_book(), TWICE, "entry", ()))


class TellTest(unittest.TestCase):
    def test_signatures(self):
        self.assertEqual(str(inspect.signature(Desk.run_here)), "(self, choices=(), fuel=200)")
        self.assertEqual(str(inspect.signature(Desk.leaving_here)), "(self, choices=(), fuel=200)")
        self.assertEqual(str(inspect.signature(Desk.do_deed)), "(self, deed)")
        self.assertEqual(str(inspect.signature(Desk.trial)), "(self, deeds)")

    def test_answers_verdicts_and_runs(self):
        rng = random.Random(291)
        for _ in range(30):
            book = random_book(rng, nones=0.2)
            desk = Desk(book, random_program(rng, book), rng.choice(TREATMENTS))
            for _ in range(6):
                error_of(desk.do_deed, random_deed(rng, desk))
                self.assertEqual(desk.work_out(), answer_program(desk.book, desk.program, desk.treatment))
                self.assertEqual(desk.told_verdict(), verdict(desk.book))
                choices = [rng.randrange(2) for _ in range(6)]
                one = run_program(desk.program, choices, 40)
                self.assertEqual(desk.run_here(choices, 40), one)
                self.assertEqual(desk.leaving_here(choices, 40),
                                 first_leaving(desk.book, desk.program, desk.work_out(), one))
            self.assertEqual(desk.run_here(), run_program(desk.program))

    def test_errors(self):
        desk = Desk(parity_book(), TWICE, "entry")
        for function in (desk.run_here, desk.leaving_here):
            self.assertEqual(error_of(function, (2,), 0), ("BadChoices", 0))
            self.assertEqual(error_of(function, None), ("BadChoices", -1))
            self.assertEqual(error_of(function, (), 0), ("BadFuel",))
            self.assertEqual(error_of(function, [1], fuel=5001), ("BadFuel",))
        far = ring_book(3, 5, [("mod", 2)])
        desk = Desk(far, Program([("main", 1, ())]), "one")
        for function, more in ((desk.told_verdict, ()), (report_of, (desk,)), (desk.trial, ((),))):
            self.assertEqual(error_of(function, *more), ("TooLong", 10080))
        self.assertEqual(error_of(desk.trial, [("treat", "x")]), ("BadStory", 0))
        self.assertEqual(desk.log, ())

    def test_leaving_by_hand(self):
        book = parity_book(meanings=(empty_lot(), evens(), just_lot([1]), whole_lot()))
        desk = Desk(book, Program([("main", 1, (ADD, ADD, ADD))]), "one")
        self.assertEqual(desk.leaving_here(), (3, 0))
        self.assertIsNone(desk.leaving_here(fuel=3))
        desk.do_deed(("raise", (("deed", 1, 1, 3),)))
        self.assertIsNone(desk.leaving_here())


class ReportTest(unittest.TestCase):
    def test_by_hand(self):
        desk = Desk(parity_book(), TWICE, "entry")
        report = report_of(desk)
        self.assertEqual(report, Report(parity_book(), TWICE, "entry", (
            (("main", (1,)), 0, (1,)), (("main", (1,)), 1, (2,)), (("main", (1,)), 2, (1,)),
            (("p", (1,)), 0, (1,)), (("p", (1,)), 1, (2,)), (("p", (2,)), 0, (2,)), (("p", (2,)), 1, (1,))), (), False))
        stopped = Desk(parity_book(first=2), Program([("main", 1, (("stop",),))]), "one")
        self.assertEqual(report_of(stopped).rows, ((("main", ()), 0, (2,)), (("main", ()), 1, None)))
        self.assertIs(report_of(stopped).lies, True)
        need = Program([("main", 1, (("deed", 0, ("turn",)), ADD, ("need", 0, ("is", 0))))])
        self.assertEqual(report_of(Desk(sign_book(), need, "one")).alarms, ((("main", ()), 2),))
        self.assertIs(report_of(Desk(sign_book(), need, "one")).lies, False)

    def test_results_keep_what_they_are_given(self):
        rows = [(("m", ()), 0, None)]
        alarms = [(("m", ()), 0)]
        report = Report(1, 2, ["callers", 1], rows, alarms, 5)
        self.assertEqual((report.book, report.program, report.treatment, report.rows, report.alarms, report.lies),
                         (1, 2, ("callers", 1), tuple(rows), tuple(alarms), 5))
        parts = (1, 2, ("callers", 1), tuple(rows), tuple(alarms), 5)
        self.assertEqual(report, Report(*parts))
        for at in range(6):
            changed = list(parts)
            changed[at] = () if at in (3, 4) else 9
            self.assertNotEqual(report, Report(*changed))
        self.assertNotEqual(report, parts)

    def test_random_reports(self):
        rng = random.Random(292)
        for _ in range(30):
            book = random_book(rng, nones=0.3)
            desk = Desk(book, random_program(rng, book), rng.choice(TREATMENTS))
            report = report_of(desk)
            answer = desk.work_out()
            want = [(node, place, row) for node, table in zip(answer.nodes, answer.tables)
                    for place, row in enumerate(table)]
            self.assertEqual(list(report.rows), want)
            self.assertEqual([row[:2] for row in report.rows], sorted(row[:2] for row in report.rows))
            self.assertEqual(report.alarms, answer.node_alarms)
            self.assertEqual(report.lies, isinstance(verdict(book), Lies))
            self.assertEqual((report.book, report.program, report.treatment), (book, desk.program, desk.treatment))


class TrialTest(unittest.TestCase):
    def test_a_trial_changes_nothing(self):
        rng = random.Random(293)
        refused = backs = 0
        for _ in range(40):
            book = random_book(rng, nones=0.2)
            program, treatment = random_program(rng, book), rng.choice(TREATMENTS)
            desk = Desk(book, program, treatment)
            for _ in range(rng.randint(0, 6)):
                error_of(desk.do_deed, random_deed(rng, desk))
            twin = play_story(book, program, treatment, desk.log)
            deeds = []
            for _ in range(rng.randint(0, 6)):
                deeds.append(random_deed(rng, twin))
                if error_of(twin.do_deed, deeds[-1]) is not None:
                    break
            else:
                deeds.append(None)
            before = (state_of(desk), told_by(desk))
            error = ("BadStory", len(deeds) - 1)
            self.assertEqual(error_of(desk.trial, deeds), error)
            refused += 1
            self.assertEqual(desk.trial(deeds[:-1]), report_of(twin))
            self.assertEqual(desk.trial(tuple(deeds[:-1])), report_of(twin))
            backs += len(twin.in_force) < len(desk.in_force)
            self.assertEqual((state_of(desk), told_by(desk)), before)
        self.assertGreater(backs, 2)

    def test_a_back_may_take_back_elder_deeds(self):
        desk = Desk(parity_book(), TWICE, "entry")
        desk.do_deed(("treat", "one"))
        desk.do_deed(("raise", (("deed", 1, 1, 3),)))
        first = report_of(Desk(parity_book(), TWICE, "entry"))
        self.assertEqual(desk.trial([("back",), ["back"]]), first)
        self.assertEqual(desk.trial([("order", (3,)), ("back",), ("back",), ("back",)]), first)
        self.assertEqual(error_of(desk.trial, [("back",)] * 3), ("BadStory", 2))
        self.assertEqual(len(desk.in_force), 2)
        desk.do_deed(("back",))
        desk.do_deed(("back",))
        self.assertEqual(report_of(desk), first)

    def test_wrong_stories(self):
        desk = Desk(parity_book(), TWICE, "entry")
        for deeds in (None, "deeds", 3, {}, [("treat", "one")] * 61, [None] * 61):
            self.assertEqual(error_of(desk.trial, deeds), ("BadStory", -1))
            self.assertEqual(error_of(play_story, parity_book(), TWICE, "entry", deeds), ("BadStory", -1))
        self.assertIsNone(error_of(desk.trial, [("treat", "one")] * 60))
        for deed in (None, ("back",), ("program", 3), ("edit", 3), ("treat", 3), ("order", 3), ("raise", 3)):
            self.assertEqual(error_of(desk.trial, [("treat", "one"), ("back",), deed, None]), ("BadStory", 2))
            self.assertEqual(error_of(play_story, parity_book(), TWICE, "entry", ((), deed)), ("BadStory", 0))
            self.assertEqual(error_of(play_story, parity_book(), TWICE, "entry", [("back",)]), ("BadStory", 0))


class StoryTest(unittest.TestCase):
    def test_desks_tell_the_same_as_new_ones(self):
        rng = random.Random(294)
        kinds = {}
        refused = 0
        for _ in range(50):
            book = random_book(rng, nones=0.2)
            program = random_program(rng, book)
            treatment = rng.choice(TREATMENTS)
            desk = Desk(book, program, treatment)
            for _ in range(rng.randint(1, 15)):
                before = state_of(desk)
                deed = random_deed(rng, desk)
                if error_of(desk.do_deed, deed) is None:
                    kinds[deed[0]] = kinds.get(deed[0], 0) + 1
                else:
                    refused += 1
                    self.assertEqual(state_of(desk), before)
            forced = play_story(book, program, treatment, desk.in_force)
            self.assertEqual(forced.log, desk.in_force)
            self.assertEqual(told_by(forced), told_by(desk))
            whole = play_story(book, program, treatment, list(desk.log))
            self.assertEqual(whole.log, desk.log)
            self.assertEqual(told_by(whole), told_by(desk))
        self.assertEqual(set(kinds), {"program", "edit", "treat", "order", "raise", "back"})
        self.assertGreater(min(*kinds.values(), refused), 10, kinds)

    def test_new_desks(self):
        strange = Program([("m", 1, (("deed", 0, ("set", 1)),))])
        self.assertEqual(error_of(play_story, parity_book(), strange, "x", None), ("OtherAlphabet",))
        self.assertEqual(error_of(play_story, parity_book(), TWICE, "x", None), ("BadTreatment",))
        desk = play_story(parity_book(), TWICE, ["callers", 1], ())
        self.assertIsInstance(desk, Desk)
        self.assertEqual(state_of(desk), (parity_book(), TWICE, ("callers", 1), (), (), ()))

    def test_edits_one_after_another(self):
        desk = play_story(parity_book(), TWICE, "entry", [
            ("edit", (("put", "main", 2, ADD),)), ("edit", (("strike", "main", 0), ("row", "p", 0, ("stop",)))),
            ("back",), ("edit", (("drop", "main"),))])
        program = edit_program(edit_program(TWICE, (("put", "main", 2, ADD),)), (("drop", "main"),))
        self.assertEqual(desk.program, program)
        self.assertEqual([deed[0] for deed in desk.log], ["edit", "edit", "back", "edit"])
        self.assertEqual(len(desk.in_force), 2)


if __name__ == "__main__":
    unittest.main()
