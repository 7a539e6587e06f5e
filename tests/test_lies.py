"""Couples shown, the verdict, and the judge of lies [11.6] to [11.8], [11.10]."""

import random
import unittest

from randoms import random_book, random_program, remade, sound_book
from support import (
    TREATMENTS, error_of, evens, odds, parity_book, ring_book, row_at_end, sign_book, word_at,
)
from truebooks.beneath import beneath_lots
from truebooks.books import Book
from truebooks.calls import answer_program
from truebooks.covering import all_gaps
from truebooks.lies import Lies, NeverLies, Shown, lie_fault, show_couple, verdict
from truebooks.lots import empty_lot, just_lot, lot_members, make_lot, range_lot, whole_lot
from truebooks.places import alphabet_of, flat_rows
from truebooks.programs import Program
from truebooks.runs import run_program
from truebooks.told import told_words

ADD = ("deed", 0, ("add", 1))


def zero_lies():
    """The example of [11.10]: E means just 0."""
    return parity_book(meanings=(empty_lot(), just_lot([0]), odds(), whole_lot()))


def plain_lie(book):
    """The lie that the document tells for this book."""
    return Lies(Program([("main", 1, (ADD, ADD))]), (), 2, 0, 1, 2)


class ShowTest(unittest.TestCase):
    def check_shown(self, book, word, number):
        shown = show_couple(book, word, number)
        self.assertIsInstance(shown, Shown)
        self.assertEqual(shown, show_couple(book, word, number))
        program = shown.program
        self.assertEqual(program.procedures[0][1], 1)
        run = run_program(program, shown.choices, 5000)
        self.assertEqual(run.end, "done")
        self.assertEqual(run.steps[-1][:2], (0, program.main))
        self.assertEqual(run.steps[-1][3][0], number)
        for treatment in TREATMENTS:
            self.assertEqual(row_at_end(book, program, treatment), None if word == 0 else (word,))
        letters, tests = alphabet_of(program)
        self.assertLessEqual(set(letters), set(book.letters))
        self.assertLessEqual(set(tests), set(book.tests))
        return shown

    def test_the_example_book(self):
        book = parity_book()
        for word, number in ((1, 0), (1, 2), (1, 40), (2, 1), (2, 7), (3, 0), (3, 5), (3, 6)):
            self.check_shown(book, word, number)
        for word, number in ((1, 1), (1, -2), (2, 0), (2, -1), (3, -1), (0, 0), (0, 3)):
            self.assertIsNone(show_couple(book, word, number))

    def test_few_rules(self):
        self.assertEqual(self.check_shown(parity_book(), 1, 0).program, Program([("main", 1, ())]))
        self.assertEqual(self.check_shown(parity_book(), 1, 2).program, Program([("main", 1, (ADD, ADD))]))

    def test_random_couples(self):
        rng = random.Random(201)
        shown = nones = 0
        for _ in range(40):
            book = random_book(rng, nones=rng.choice((0, 0.2, 0.5)), letters=rng.randint(1, 4))
            lots = beneath_lots(book)
            for word in range(book.many):
                for number in range(-5, 6):
                    if number in lots[word]:
                        if rng.random() < 0.3:
                            self.check_shown(book, word, number)
                            shown += 1
                            nones += word == 0
                    else:
                        self.assertIsNone(show_couple(book, word, number))
        self.assertGreater(shown, 100)
        self.assertGreater(nones, 20)

    def test_couples_that_only_none_leads_to(self):
        # Behind 1 the letter add leads to NONE, so other numbers stand with 1 by a join alone.
        book = parity_book(deeds=((0, 1, 1, 1), (0, 0, 0, 3)), tests=(("is", 4),), so=((0, 0, 0, 0),),
                           not_so=((0, 1, 2, 3),))
        for word, number in ((0, 1), (0, 0), (0, 9), (1, 1), (1, 9), (1, 0)):
            self.check_shown(book, word, number)
        self.assertIsNone(show_couple(book, 2, 1))
        # Tests that are met behind NONE bar nothing.
        book = parity_book(deeds=((0, 1, 1, 1), (0, 0, 0, 0)), tests=(("below", 3),), so=((0, 0, 0, 0),),
                           not_so=((0, 0, 0, 0),), first=3)
        for word, number in ((3, 0), (0, 0), (3, 7), (0, 12), (1, 0), (1, 7)):
            self.check_shown(book, word, number)

    def test_couples_behind_tests_and_joins(self):
        book = sign_book()
        for word, number in ((1, 0), (2, 1), (2, 20), (3, 0), (3, -4), (3, 6)):
            self.check_shown(book, word, number)
        book = sign_book(so=((0, 1, 0, 3), (0, 1, 0, 3)), not_so=((0, 2, 2, 2), (0, 2, 2, 2)))
        for word in (2, 3):
            for number in (-3, 0, 3):
                if number in beneath_lots(book)[word]:
                    self.check_shown(book, word, number)

    def test_many_rules(self):
        letters = (("set", 0), ("add", 1))
        book = Book(letters, (), ((0, 1), (1, 1)), (empty_lot(), whole_lot()), ((0, 1), (0, 1)), (), (), 1)
        for number in (100, 999, 1000):
            shown = self.check_shown(book, 1, number)
            self.assertEqual(len(flat_rows(shown.program.procedures[0][2])), number)
        for number in (1001, 2000, 5000, 10000):
            self.assertIn(error_of(show_couple, book, 1, number), (None, ("TooLarge", 3000)))
        # With 20 for a step, 10,000 needs no more than 500 rules.
        far = remade(book, letters=(("set", 0), ("add", 20)))
        self.check_shown(far, 1, 10000)
        self.check_shown(remade(far, letters=(("set", 0), ("add", -20))), 1, -10000)
        self.assertIsNone(show_couple(far, 1, 9999))

    def test_many_tests_and_joins(self):
        # Each turn adds 1, passes a test and joins; 333 turns are 999 rules.
        joins = ((0, 1, 2, 3), (1, 1, 3, 3), (2, 3, 2, 3), (3, 3, 3, 3))
        book = Book((("set", 0), ("add", 1), ("set", 1)), (("is", -9),), joins,
                    (empty_lot(), whole_lot(), whole_lot(), whole_lot()),
                    ((0, 1, 1, 1), (0, 2, 0, 2), (0, 2, 2, 2)), ((0, 0, 0, 0),), ((0, 0, 3, 3),), 1)
        lots = beneath_lots(book)
        for word in range(4):
            for number in (0, 1, 2, 50, 300):
                if number in lots[word]:
                    self.check_shown(book, word, number)

    def test_errors_in_their_order(self):
        for word in (4, -1, True, None, "1", (1,)):
            self.assertEqual(error_of(show_couple, parity_book(), word, 0), ("BadWord",))
        for book, most in ((ring_book(3, 5, [("mod", 2)]), 10080), (ring_book(5, 4, [("mod", 3)]), 2000)):
            self.assertEqual(error_of(show_couple, book, 1, 0), ("TooLong", most))
            self.assertEqual(error_of(show_couple, book, 99, 0), ("BadWord",))
            self.assertEqual(error_of(verdict, book), ("TooLong", most))
        self.assertIsNone(error_of(verdict, ring_book(5, 4)))


class VerdictTest(unittest.TestCase):
    def check_lie(self, book, lie):
        self.assertIsInstance(lie, Lies)
        run = run_program(lie.program, lie.choices, 5000)
        self.assertEqual(run.steps[lie.at][3][lie.variable], lie.number)
        for treatment in TREATMENTS:
            answer = answer_program(book, lie.program, treatment)
            self.assertEqual(word_at(book, lie.program, answer, run, lie.at, lie.variable), lie.word)
        self.assertNotIn(lie.number, book.meanings[lie.word])
        self.assertIsNone(lie_fault(book, lie))

    def test_the_examples(self):
        self.assertEqual(verdict(parity_book()), NeverLies(beneath_lots(parity_book())))
        self.assertEqual(verdict(sign_book()), NeverLies(beneath_lots(sign_book())))
        self.check_lie(zero_lies(), verdict(zero_lies()))
        self.check_lie(zero_lies(), plain_lie(zero_lies()))

    def test_the_first_word_alone(self):
        book = parity_book(first=2)
        lie = verdict(book)
        self.check_lie(book, lie)
        self.assertEqual((lie.at, lie.word, lie.number), (0, 2, 0))

    def test_books_that_never_lie_though_they_have_gaps(self):
        # The gaps are at any, which is never told.
        book = parity_book(deeds=((0, 1, 1, 1), (0, 1, 1, 1)), letters=(("set", 0), ("turn",)))
        self.assertEqual(told_words(book), (1,))
        self.assertTrue(all_gaps(book))
        self.assertEqual(verdict(book), NeverLies(beneath_lots(book)))
        # The meaning has more numbers than can stand beneath the word.
        book = parity_book(meanings=(empty_lot(), evens(), make_lot(0, 0, [0], 2, [1], [1]), whole_lot()),
                           letters=(("set", 0), ("add", 2)), deeds=((0, 1, 1, 1), (0, 1, 1, 3)))
        self.assertTrue(all_gaps(book))
        self.assertEqual(verdict(book), NeverLies(beneath_lots(book)))

    def test_lies_at_none(self):
        book = parity_book(tests=(("is", 2),), so=((0, 0, 0, 0),), not_so=((0, 1, 2, 3),))
        lie = verdict(book)
        self.check_lie(book, lie)
        self.assertEqual((lie.word, lie.number), (0, 2))
        book = parity_book(deeds=((0, 0, 0, 0), (0, 2, 1, 3)))
        lie = verdict(book)
        self.check_lie(book, lie)
        self.assertEqual((lie.word, lie.number), (0, 0))

    def test_far_lies(self):
        book = parity_book(meanings=(empty_lot(), range_lot(0, 198), range_lot(0, 199), range_lot(0, 200)))
        lie = verdict(book)
        self.check_lie(book, lie)
        book = Book((("set", 0), ("add", 1)), (), ((0, 1), (1, 1)), (empty_lot(), range_lot(-9, 200)),
                    ((0, 1), (0, 1)), (), (), 1)
        self.check_lie(book, verdict(book))
        self.assertEqual(verdict(book).number, 201)

    def test_random_books(self):
        rng = random.Random(202)
        kinds = {"lies": 0, "none": 0, "never": 0}
        for _ in range(150):
            book = random_book(rng, nones=rng.choice((0, 0.3, 0.5)), letters=rng.randint(1, 4))
            found = verdict(book)
            lots = beneath_lots(book)
            fits = all(set(lot_members(lot, -90, 90)) <= set(lot_members(meaning, -90, 90))
                       for lot, meaning in zip(lots, book.meanings))
            self.assertEqual(isinstance(found, NeverLies), fits)
            if fits:
                kinds["never"] += 1
                self.assertEqual(found, NeverLies(lots))
            else:
                kinds["lies"] += 1
                kinds["none"] += found.word == 0
                self.check_lie(book, found)
                self.assertEqual(found, verdict(book))
        for _ in range(30):
            book = sound_book(rng, nones=rng.choice((0, 0.2)))
            self.assertEqual(verdict(book), NeverLies(beneath_lots(book)))
        self.assertGreater(min(kinds.values()), 5, kinds)

    def test_what_never_lies_stays_within_along_runs(self):
        rng = random.Random(203)
        steps = 0
        for _ in range(50):
            book = sound_book(rng, nones=rng.choice((0, 0.1, 0.3)))
            program = random_program(rng, book)
            run = run_program(program, [rng.randrange(2) for _ in range(9)], 60)
            for treatment in TREATMENTS:
                answer = answer_program(book, program, treatment)
                for at, (_, _, _, values) in enumerate(run.steps):
                    for variable, number in enumerate(values):
                        word = word_at(book, program, answer, run, at, variable)
                        self.assertIn(number, book.meanings[word])
                        steps += 1
        self.assertGreater(steps, 1000)


class FaultTest(unittest.TestCase):
    def test_each_word(self):
        book = zero_lies()
        program = Program([("main", 1, (ADD, ADD))])
        strange = Program([("main", 1, (ADD, ADD, ("deed", 0, ("add", 2))))])
        asking = Program([("main", 1, (ADD, ADD, ("need", 0, ("is", 2))))])
        self.assertIsNone(lie_fault(book, plain_lie(book)))
        self.assertIsNone(lie_fault(book, Lies(program, [0, 1], 2, 0, 1, 2)))
        cases = (
            (Lies(strange, (), 2, 0, 1, 2), "alphabet"), (Lies(asking, (), 2, 0, 1, 2), "alphabet"),
            (Lies(program, (), 3, 0, 1, 2), "step"), (Lies(program, (), -1, 0, 1, 2), "step"),
            (Lies(program, (), 2, 1, 1, 2), "variable"), (Lies(program, (), 2, -1, 1, 2), "variable"),
            (Lies(program, (), 2, 0, 1, 3), "number"), (Lies(program, (), 1, 0, 1, 2), "number"),
            (Lies(program, (), 2, 0, 2, 2), "word"), (Lies(program, (), 2, 0, 0, 2), "word"),
            (Lies(program, (), 2, 0, 9, 2), "word"), (Lies(program, (), 2, 0, -3, 2), "word"),
            (Lies(program, (), 0, 0, 1, 0), "within"), (Lies(program, (), 1, 0, 2, 1), "within"),
        )
        for lie, word in cases:
            self.assertEqual(lie_fault(book, lie), word, vars(lie))

    def test_the_first_word_comes_first(self):
        book = zero_lies()
        program = Program([("main", 1, (ADD, ADD))])
        strange = Program([("main", 1, (ADD, ADD, ("deed", 0, ("add", 2))))])
        self.assertEqual(lie_fault(book, Lies(strange, (), 9, 9, 9, 9)), "alphabet")
        self.assertEqual(lie_fault(book, Lies(program, (), 9, 9, 9, 9)), "step")
        self.assertEqual(lie_fault(book, Lies(program, (), 0, 9, 9, 9)), "variable")
        self.assertEqual(lie_fault(book, Lies(program, (), 0, 0, 9, 9)), "number")
        self.assertEqual(lie_fault(book, Lies(program, (), 0, 0, 9, 0)), "word")
        self.assertEqual(lie_fault(book, Lies(program, (), 0, 0, 1, 0)), "within")

    def test_each_treatment_must_tell_the_word(self):
        # By "one" the callee is told any from the first step on, by "entry" even and then odd.
        book = parity_book(meanings=(empty_lot(), just_lot([0]), just_lot([5]), whole_lot()))
        call = ("call", "p", (0,), 0)
        program = Program([("main", 1, (call, ADD, call)), ("p", 1, ())])
        # Step 5 is the callee's END on the second call: 1 under the word odd.
        run = run_program(program)
        at = [step[:3] for step in run.steps].index((1, "p", 0), 2)
        self.assertEqual(run.steps[at][3], (1,))
        self.assertEqual(lie_fault(book, Lies(program, (), at, 0, 2, 1)), "word")
        self.assertEqual(lie_fault(book, Lies(program, (), at, 0, 3, 1)), "word")
        # In main all treatments but "one" and one caller's tell the same.
        once = Program([("main", 1, (ADD, call)), ("p", 1, ())])
        self.assertIsNone(lie_fault(book, Lies(once, (), 2, 0, 2, 1)))

    def test_other_variables_and_choices(self):
        book = zero_lies()
        rows = (("either", (("deed", 1, ("add", 1)),), (("deed", 1, ("add", 1)), ("deed", 1, ("add", 1)))),)
        program = Program([("main", 2, rows)])
        self.assertEqual(lie_fault(book, Lies(program, (1,), 3, 1, 1, 2)), "word")
        self.assertEqual(lie_fault(book, Lies(program, (1,), 3, 1, 3, 2)), "within")
        self.assertEqual(lie_fault(book, Lies(program, (0,), 2, 1, 3, 2)), "number")
        self.assertEqual(lie_fault(book, Lies(program, (1,), 3, 0, 1, 0)), "within")
        odd = parity_book(meanings=(empty_lot(), evens(), just_lot([3]), whole_lot()))
        self.assertIsNone(lie_fault(odd, Lies(program, (1,), 2, 1, 2, 1)))
        self.assertEqual(lie_fault(odd, Lies(program, (0,), 3, 1, 2, 1)), "step")

    def test_changed_lies(self):
        rng = random.Random(204)
        lies = 0
        while lies < 40:
            book = random_book(rng, nones=0.3)
            lie = verdict(book)
            if isinstance(lie, NeverLies):
                continue
            lies += 1
            parts = (lie.program, lie.choices, lie.at, lie.variable, lie.word, lie.number)
            self.assertEqual(lie_fault(book, Lies(*parts[:2], 999, *parts[3:])), "step")
            self.assertEqual(lie_fault(book, Lies(*parts[:3], 1, *parts[4:])), "variable")
            self.assertEqual(lie_fault(book, Lies(*parts[:5], lie.number + 1)), "number")
            other = (lie.word + 1) % book.many
            self.assertEqual(lie_fault(book, Lies(*parts[:4], other, lie.number)), "word")
            if lie.word:
                wide = remade(book, meanings=[empty_lot()] + [whole_lot()] * (book.many - 1))
                self.assertEqual(lie_fault(wide, lie), "within")


class ResultTest(unittest.TestCase):
    def test_results(self):
        program = Program([("main", 1, ())])
        shown = Shown(program, [0, 1])
        self.assertEqual((shown.program, shown.choices), (program, (0, 1)))
        self.assertEqual(shown, Shown(program, (0, 1)))
        self.assertNotEqual(shown, Shown(program, (0,)))
        self.assertNotEqual(shown, Shown(Program([("m", 1, ())]), (0, 1)))
        lots = [empty_lot(), evens()]
        never = NeverLies(lots)
        self.assertEqual(never.lots, tuple(lots))
        self.assertEqual(never, NeverLies(tuple(lots)))
        self.assertNotEqual(never, NeverLies(lots[::-1]))
        self.assertNotEqual(never, lots)
        parts = (program, (0, 1), 2, 3, 4, 5)
        lie = Lies(program, [0, 1], 2, 3, 4, 5)
        self.assertEqual((lie.program, lie.choices, lie.at, lie.variable, lie.word, lie.number), parts)
        self.assertEqual(lie, Lies(*parts))
        for at in range(6):
            changed = list(parts)
            changed[at] = (1,) if at == 1 else Program([("m", 1, ())]) if at == 0 else 9
            self.assertNotEqual(lie, Lies(*changed))
        self.assertNotEqual(lie, shown)
        self.assertNotEqual(shown, never)


if __name__ == "__main__":
    unittest.main()
