"""An answer that is kept up to date [8.4] and [8.5]."""

import random
import unittest

from randoms import random_book, random_program
from support import error_of, parity_book, sign_book
from truebooks.calls import answer_program
from truebooks.edits import edit_program
from truebooks.errors import BookError
from truebooks.kept import Keeper
from truebooks.packages import reached_names
from truebooks.programs import Program

ADD = ("deed", 0, ("add", 1))
TREATMENTS = ("entry", "one", ("callers", 1), ("callers", 2), ("callers", 3))


def call(name):
    return ("call", name, (0,), 0)


def start():
    return Program([("m", 1, (call("a"), ADD, call("b"))), ("a", 1, (ADD, call("c"))),
                    ("b", 1, (call("c"), call("d"))), ("c", 1, (ADD,)), ("d", 1, (ADD, ADD))])


def state(keeper):
    return (keeper.book, keeper.program, keeper.treatment, keeper.made_anew)


class KeeperTest(unittest.TestCase):
    def test_a_new_one(self):
        keeper = Keeper(parity_book(), start(), ["callers", 2])
        self.assertEqual(state(keeper), (parity_book(), start(), ("callers", 2), ()))
        answer = keeper.work_out()
        self.assertEqual(answer, answer_program(parity_book(), start(), ("callers", 2)))
        self.assertEqual(keeper.made_anew, answer.nodes)
        self.assertEqual(keeper.work_out([3, 1]), answer)
        self.assertEqual(keeper.made_anew, ())

    def test_errors_of_a_new_one(self):
        strange = Program([("m", 1, (("deed", 0, ("add", 9)),))])
        self.assertEqual(error_of(Keeper, parity_book(), strange, "x"), ("OtherAlphabet",))
        for treatment in ("x", None, ("callers", 4), ("entry",)):
            self.assertEqual(error_of(Keeper, parity_book(), start(), treatment), ("BadTreatment",))

    def test_made_anew_by_entry(self):
        keeper = Keeper(parity_book(), start(), "entry")
        keeper.work_out()
        # d is called by b, b by m: a and c are clean.
        self.assertIsNone(keeper.do_edits([("put", "d", 0, ADD)]))
        answer = keeper.work_out()
        self.assertEqual({node[0] for node in keeper.made_anew}, {"m", "b", "d"})
        self.assertEqual(set(keeper.made_anew), {node for node in answer.nodes if node[0] in "mbd"})
        # A node of a clean name that the elder answer had not is made anew.
        keeper.do_edits([("put", "b", 0, ADD)])
        elder = answer
        answer = keeper.work_out()
        fresh = {node for node in answer.nodes if node[0] in "mb" or node not in elder.nodes}
        self.assertEqual(set(keeper.made_anew), fresh)

    def test_made_anew_by_the_other_treatments(self):
        for treatment in TREATMENTS[1:]:
            keeper = Keeper(parity_book(), start(), treatment)
            keeper.work_out()
            keeper.do_edits([("unit", [("x", 1, (call("m"),))])])
            answer = keeper.work_out()
            self.assertEqual(keeper.made_anew, ())
            keeper.do_edits([("put", "d", 0, ADD)])
            answer = keeper.work_out()
            self.assertEqual(keeper.made_anew, answer.nodes)
            keeper.do_edits([("first", "a")])
            answer = keeper.work_out()
            self.assertEqual(keeper.made_anew, answer.nodes)
            self.assertEqual({node[0] for node in answer.nodes}, {"a", "c"})

    def test_first_by_entry_keeps_clean_nodes(self):
        keeper = Keeper(parity_book(), start(), "entry")
        keeper.work_out()
        keeper.do_edits([("first", "a")])
        answer = keeper.work_out()
        self.assertEqual(answer.nodes, (("a", (1,)), ("c", (2,))))
        self.assertEqual(keeper.made_anew, ())

    def test_take_back(self):
        keeper = Keeper(parity_book(), start(), "entry")
        self.assertEqual(error_of(keeper.take_back), ("NothingBack",))
        keeper.do_edits([("drop", "m")])
        keeper.do_edits([])
        keeper.do_edits([("first", "d")])
        self.assertEqual(error_of(keeper.do_edits, [("drop", "c")]), ("BadEdit", 0, "program"))
        self.assertEqual(keeper.program.main, "d")
        self.assertIsNone(keeper.set_treatment("one"))
        self.assertIsNone(keeper.take_back())
        self.assertEqual((keeper.program.main, keeper.treatment), ("a", "one"))
        keeper.take_back()
        self.assertEqual(keeper.program.main, "a")
        keeper.take_back()
        self.assertEqual(keeper.program, start())
        self.assertEqual(error_of(keeper.take_back), ("NothingBack",))

    def test_edits_that_were_taken_back_leave_all_clean(self):
        keeper = Keeper(parity_book(), start(), "entry")
        keeper.work_out()
        keeper.do_edits([("put", "c", 0, ADD)])
        keeper.take_back()
        keeper.work_out()
        self.assertEqual(keeper.made_anew, ())
        keeper.do_edits([("put", "c", 0, ADD)])
        keeper.work_out()
        keeper.take_back()
        answer = keeper.work_out()
        self.assertEqual(keeper.made_anew, tuple(node for node in answer.nodes if node[0] != "d"))

    def test_another_treatment(self):
        keeper = Keeper(parity_book(), start(), "entry")
        answer = keeper.work_out()
        keeper.set_treatment("one")
        # The treatment is the same as then, so all is kept.
        keeper.set_treatment("entry")
        self.assertEqual((keeper.work_out(), keeper.made_anew), (answer, ()))
        keeper.set_treatment(["callers", 1])
        self.assertEqual(keeper.treatment, ("callers", 1))
        answer = keeper.work_out()
        self.assertEqual(keeper.made_anew, answer.nodes)
        # What "entry" told was worked out ahead of the last time.
        keeper.set_treatment("entry")
        answer = keeper.work_out()
        self.assertEqual(keeper.made_anew, answer.nodes)

    def test_refused_calls_change_nothing(self):
        keeper = Keeper(sign_book(), start(), "entry")
        keeper.work_out()
        keeper.do_edits([("put", "d", 0, ADD)])
        before = state(keeper)
        self.assertEqual(error_of(keeper.do_edits, None), ("BadEdit", -1, "edits"))
        self.assertEqual(error_of(keeper.do_edits, [("first", "d"), ("drop", "x")]), ("BadEdit", 1, "name"))
        self.assertEqual(error_of(keeper.do_edits, [("put", "m", 0, ("need", 0, ("is", 9)))]), ("OtherAlphabet",))
        self.assertEqual(error_of(keeper.do_edits, [("put", "m", 0, ("need", 0, ("is", 9))), ("drop", "x")]),
                         ("BadEdit", 1, "name"))
        for treatment in (None, "x", ("callers", 0)):
            self.assertEqual(error_of(keeper.set_treatment, treatment), ("BadTreatment",))
        for picks in (None, [-1], [0] * 61, [True]):
            self.assertEqual(error_of(keeper.work_out, picks), ("BadPicks",))
        self.assertEqual(state(keeper), before)
        keeper.work_out()
        self.assertEqual({node[0] for node in keeper.made_anew}, {"m", "b", "d"})
        keeper.take_back()
        self.assertEqual(keeper.program, start())
        self.assertEqual(error_of(keeper.take_back), ("NothingBack",))

    def test_an_edit_that_only_fits_behind_others(self):
        # Between the edits the program may have letters that the book has not.
        keeper = Keeper(parity_book(), start(), "entry")
        keeper.do_edits([("put", "m", 0, ("need", 0, ("is", 9))), ("strike", "m", 0)])
        self.assertEqual(keeper.program, start())


class StoryTest(unittest.TestCase):
    def test_stories(self):
        rng = random.Random(84)
        for _ in range(60):
            book = random_book(rng)
            programs = [random_program(rng, book, procedures=rng.randint(2, 5), depth=1) for _ in range(2)]
            Story(rng, book, programs).go(25)


class Story:
    """A Keeper along random calls, beside what it ought to tell."""

    def __init__(self, rng, book, programs):
        self.rng = rng
        self.book = book
        self.spare = programs[1]
        self.elder = []
        self.program = programs[0]
        self.treatment = rng.choice(TREATMENTS)
        self.worked = None
        self.made_anew = ()
        self.keeper = Keeper(book, programs[0], self.treatment)

    def go(self, many):
        for _ in range(many):
            self.rng.choice((self.edit, self.edit, self.back, self.treat, self.work, self.work))()
            assert (self.keeper.program, self.keeper.treatment) == (self.program, self.treatment)
            assert self.keeper.made_anew == self.made_anew

    def edit(self):
        name, _, rows = self.rng.choice(self.program.procedures)
        other = self.rng.choice(self.spare.procedures)
        row = self.rng.choice(other[2])
        at = self.rng.randint(0, len(rows))
        edit = self.rng.choice((("row", name, at, row), ("put", name, at, row), ("strike", name, at),
                                ("unit", (other,)), ("drop", name), ("first", name)))
        try:
            program = edit_program(self.program, [edit])
        except BookError:
            assert error_of(self.keeper.do_edits, [edit]) is not None
            return
        self.keeper.do_edits([edit])
        self.elder.append(self.program)
        self.program = program

    def back(self):
        if self.elder:
            self.keeper.take_back()
            self.program = self.elder.pop()
        else:
            assert error_of(self.keeper.take_back) == ("NothingBack",)

    def treat(self):
        if self.rng.random() < 0.4:
            self.treatment = self.rng.choice(TREATMENTS)
            self.keeper.set_treatment(self.treatment)

    def work(self):
        answer = self.keeper.work_out([self.rng.randrange(5) for _ in range(3)])
        assert answer == answer_program(self.book, self.program, self.treatment)
        self.made_anew = tuple(node for node in answer.nodes if not self.is_kept(node))
        self.worked = (self.program, self.treatment, answer)

    def is_kept(self, node):
        if self.worked is None or self.worked[1] != self.treatment:
            return False
        elder, _, answer = self.worked
        if self.treatment == "entry":
            return self.is_clean(elder, node[0]) and node in answer.nodes
        return elder.main == self.program.main and self.is_clean(elder, elder.main)

    def is_clean(self, elder, name):
        now = {one[0]: one for one in self.program.procedures}
        return all(now[other] in elder.procedures for other in reached_names(self.program, name))


if __name__ == "__main__":
    unittest.main()
