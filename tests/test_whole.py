"""What the document promises over the whole program: the main sentence and what hangs on it."""

import pathlib
import random
import unittest

from randoms import loop_book, loop_program, random_book, random_program, remade, sound_book, two_books
from support import TREATMENTS, error_of, parity_book
from truebooks.beneath import beneath_lots
from truebooks.bestbook import best_book, covered_book
from truebooks.booktext import read_book, write_book
from truebooks.calls import answer_program
from truebooks.covering import meanings_fault, tight_book
from truebooks.desk import Desk, report_of
from truebooks.edits import edit_program
from truebooks.exactbook import exact_book
from truebooks.fits import first_leaving, follow_run, leaving_run, quiet_failure
from truebooks.kept import Keeper
from truebooks.leastbook import class_of, least_book
from truebooks.lies import Lies, NeverLies, lie_fault, show_couple, verdict
from truebooks.lots import both_lot, either_lot, empty_lot, lot_members, whole_lot, within
from truebooks.mends import least_mends
from truebooks.programs import Program
from truebooks.programtext import read_program, write_program
from truebooks.reasons import reasons_of
from truebooks.runs import run_program
from truebooks.stories import play_story, read_story, write_story
from truebooks.tablejudge import judge_answer
from truebooks.tables import raised_book
from truebooks.told import rows_that_matter, told_words
from truebooks.twobooks import alike, finer


def random_edit(rng, book, program):
    """An edit that may fail."""
    name, _, rows = rng.choice(program.procedures)
    row = random_program(rng, book, procedures=1).procedures[0][2][-1]
    return rng.choice((("put", name, rng.randint(0, len(rows)), row), ("row", name, 0, row), ("strike", name, 0),
                       ("first", name)))


class MainSentenceTest(unittest.TestCase):
    def test_no_run_leaves_a_told_word_if_the_book_never_lies(self):
        rng = random.Random(311)
        steps = 0
        for _ in range(40):
            book = sound_book(rng, nones=rng.choice((0, 0.2)))
            self.assertIsInstance(verdict(book), NeverLies)
            keeper = Keeper(book, random_program(rng, book), rng.choice(TREATMENTS))
            for _ in range(4):
                edits = [random_edit(rng, book, keeper.program)]
                if error_of(edit_program, keeper.program, edits) is None:
                    keeper.do_edits(edits)
                keeper.set_treatment(rng.choice(TREATMENTS))
                answer = keeper.work_out([rng.randrange(5) for _ in range(3)])
                self.assertEqual(answer, answer_program(book, keeper.program, keeper.treatment))
                for choices in ((), (1,) * 8, [rng.randrange(2) for _ in range(8)]):
                    one = run_program(keeper.program, choices, 80)
                    self.assertIsNone(first_leaving(book, keeper.program, answer, one))
                    self.assertIsNone(quiet_failure(book, keeper.program, answer, one))
                    steps += len(one.steps)
        self.assertGreater(steps, 1000)

    def test_a_run_leaves_a_told_word_if_the_book_lies(self):
        rng = random.Random(312)
        lies = 0
        while lies < 40:
            book = random_book(rng, nones=rng.choice((0, 0.3)))
            lie = verdict(book)
            if isinstance(lie, NeverLies):
                continue
            lies += 1
            self.assertIsNone(lie_fault(book, lie))
            one = run_program(lie.program, lie.choices, 5000)
            for treatment in TREATMENTS:
                picks = [rng.randrange(5) for _ in range(3)]
                answer = answer_program(book, lie.program, treatment, picks)
                followed = follow_run(book, lie.program, answer, one)[lie.at][1]
                self.assertEqual(0 if followed is None else followed[lie.variable], lie.word)
                self.assertIsNotNone(first_leaving(book, lie.program, answer, one))

    def test_runs_tell_couples_and_couples_are_shown(self):
        # The numbers that random runs have beneath words are in the lots, and the lots are shown.
        rng = random.Random(313)
        for _ in range(25):
            book = random_book(rng, nones=0.3)
            lots = beneath_lots(book)
            met = set()
            for _ in range(6):
                program = random_program(rng, book)
                one = run_program(program, [rng.randrange(2) for _ in range(8)], 60)
                for treatment in TREATMENTS:
                    answer = answer_program(book, program, treatment)
                    for step, (_, row) in zip(one.steps, follow_run(book, program, answer, one)):
                        for variable, number in enumerate(step[3]):
                            met.add((row[variable] if row else 0, number))
            for word, number in met:
                self.assertIn(number, lots[word])
            for word, number in sorted(met)[:4]:
                shown = show_couple(book, word, number)
                self.assertEqual(run_program(shown.program, shown.choices, 5000).steps[-1][3][0], number)

    def test_two_books(self):
        rng = random.Random(314)
        for _ in range(60):
            one, other = two_books(rng)
            least = [least_book(book) for book in (one, other)]
            self.assertIsNone(alike(one, least[0]))
            self.assertEqual(alike(one, other) is None, alike(*least) is None)
            self.assertEqual(finer(one, other) is None, finer(*least) is None)
            program = random_program(rng, one)
            for treatment in TREATMENTS:
                alarms = [answer_program(book, program, treatment).alarm_places for book in (one, least[0])]
                self.assertEqual(alarms[0], alarms[1])


class BooksTest(unittest.TestCase):
    def test_rows_that_matter(self):
        # Rows at words that are never told do not matter for couples and verdicts, either.
        rng = random.Random(315)
        changed = 0
        for _ in range(300):
            book = random_book(rng, nones=0.3)
            matter = rows_that_matter(book)
            free = [word for word in range(1, book.many) if ("deed", 0, word) not in matter]
            if not free:
                continue
            word = rng.choice(free)
            tables = [[list(row) for row in table] for table in (book.deeds, book.so, book.not_so)]
            rng.choice(rng.choice(tables))[word] = rng.randrange(book.many)
            try:
                other = remade(book, deeds=tables[0], so=tables[1], not_so=tables[2])
            except ValueError:
                continue
            changed += other != book
            self.assertEqual(told_words(other), told_words(book))
            self.assertEqual(beneath_lots(other), beneath_lots(book))
            self.assertEqual(verdict(other), verdict(book))
            self.assertIsNone(alike(book, other))
        self.assertGreater(changed, 20)

    def test_tight_books_and_least_books(self):
        rng = random.Random(316)
        for _ in range(30):
            book = sound_book(rng, nones=0.1)
            tight = tight_book(book)
            self.assertIsNone(alike(book, tight))
            self.assertIsNone(meanings_fault(tight, tight.meanings))
            least = least_book(tight)
            self.assertIsInstance(verdict(least), NeverLies)
            lots, fewer = beneath_lots(book), beneath_lots(least)
            for word in told_words(book):
                self.assertIsNone(within(lots[word], fewer[class_of(book, word)]) if least.many > 2 else None)

    def test_best_and_covered_books(self):
        rng = random.Random(317)
        made = 0
        for _ in range(60):
            book = random_book(rng)
            book = remade(book, meanings=[*book.meanings[:-1], whole_lot()])
            try:
                best = best_book(book)
            except ValueError:
                continue
            made += 1
            covered = covered_book(book)
            self.assertIsInstance(verdict(best), NeverLies)
            self.assertIsInstance(verdict(covered), NeverLies)
            self.assertIsNone(finer(best, covered))
            pool = [(kind, at, word, row[word]) for kind, mine, table in
                    (("deed", book.deeds, covered.deeds), ("so", book.so, covered.so), ("not", book.not_so, covered.not_so))
                    for at, row in enumerate(table) for word in range(1, book.many) if mine[at][word] != row[word]]
            if 1 <= len(pool) <= 6 and book.first == covered.first:
                mends = least_mends(book, pool)
                self.assertTrue(mends)
                for mend in mends:
                    raised = raised_book(book, [pool[at] for at in mend])
                    self.assertIsInstance(verdict(raised), NeverLies)
        self.assertGreater(made, 10)

    def test_exact_books(self):
        rng = random.Random(318)
        made = 0
        for _ in range(60):
            program = loop_program(rng)
            book = loop_book(rng)
            if error_of(exact_book, book, program) is None:
                made += 1
                exact = exact_book(book, program)
                self.assertIsInstance(verdict(exact), NeverLies)
                answer = answer_program(exact, program, "entry")
                for choices in ((), (1,) * 9, [rng.randrange(2) for _ in range(9)]):
                    one = run_program(program, choices, 100)
                    self.assertIsNone(first_leaving(exact, program, answer, one))
                self.assertIsNone(leaving_run(exact, program, answer, 6, 400))
        self.assertGreater(made, 30)


class ReadmeTest(unittest.TestCase):
    def test_the_example_of_the_readme(self):
        text = (pathlib.Path(__file__).parent.parent / "README.md").read_text()
        code = text.split("```python\n")[1].split("```")[0]
        self.assertGreater(code.count("assert"), 10)
        exec(code, {})


class KeptTest(unittest.TestCase):
    def test_answers_programs_and_books_agree_with_their_texts(self):
        rng = random.Random(319)
        for _ in range(20):
            book = read_book(write_book(random_book(rng, nones=0.2)))
            program = random_program(rng, book)
            program = read_program(write_program(program))
            desk = Desk(book, program, "entry")
            for treatment in TREATMENTS:
                desk.do_deed(("treat", treatment))
                answer = desk.work_out()
                self.assertIsNone(judge_answer(book, program, answer, reasons_of(book, program, treatment)))
                self.assertEqual(report_of(desk).alarms, answer.node_alarms)
            story = read_story(write_story(desk.log))
            self.assertEqual(report_of(play_story(book, program, "entry", story)), report_of(desk))

    def test_nothing_that_is_passed_in_is_changed(self):
        rng = random.Random(320)
        for _ in range(10):
            book, other = two_books(rng)
            program = random_program(rng, book)
            parts = [repr(vars(thing)) for thing in (book, other, program)]
            texts = [write_book(book), write_book(other), write_program(program)]
            answer = answer_program(book, program, "one")
            for function, more in ((verdict, (book,)), (alike, (book, other)), (finer, (book, other)),
                                   (least_book, (book,)), (first_leaving, (book, program, answer, run_program(program)))):
                first = error_of(function, *more) or function(*more)
                self.assertEqual(error_of(function, *more) or function(*more), first)
            self.assertEqual([write_book(book), write_book(other), write_program(program)], texts)
            self.assertEqual([repr(vars(thing)) for thing in (book, other, program)], parts)

    def test_the_meanings_of_answers_hold(self):
        # Lots that show that a book never lies hold all numbers of runs, word by word.
        rng = random.Random(321)
        for _ in range(20):
            book = sound_book(rng, nones=0.1)
            lots = beneath_lots(book)
            wider = [either_lot(lot, both_lot(lot, meaning)) for lot, meaning in zip(lots, book.meanings)]
            self.assertIsNone(meanings_fault(book, wider))
            program = random_program(rng, book)
            one = run_program(program, (1, 0) * 5, 60)
            answer = answer_program(book, program, "entry")
            for step, (_, row) in zip(one.steps, follow_run(book, program, answer, one)):
                for number, word in zip(step[3], row):
                    self.assertIn(number, lots[word])

    def test_the_lie_of_the_example(self):
        book = parity_book(meanings=(empty_lot(), both_lot(parity_book().meanings[1], empty_lot()),
                                     parity_book().meanings[2], whole_lot()))
        lie = verdict(book)
        self.assertIsInstance(lie, Lies)
        self.assertEqual((lie.at, lie.word, lie.number), (0, 1, 0))
        self.assertEqual(lot_members(beneath_lots(book)[1], 0, 4), (0, 2, 4))
        self.assertEqual(Program(lie.program.procedures), lie.program)


if __name__ == "__main__":
    unittest.main()
