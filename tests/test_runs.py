"""Runs of programs [5.1] to [5.9]."""

import itertools
import random
import unittest

from randoms import plain_places, random_book, random_program
from support import error_of
from truebooks.letters import do_letter, passes
from truebooks.programs import Program
from truebooks.runs import Run, all_runs, open_calls, run_fault, run_program

ADD = ("deed", 0, ("add", 1))
STOP = ("stop",)
EXAMPLE = Program([("m", 1, (("while", 0, ("below", 1), (ADD,)), ("need", 0, ("is", 1))))])
# Calls itself as often as 0 is chosen, and adds 1 on the way back each time.
DEEP = Program([("m", 1, (("either", (("call", "m", (0,), 0), ADD), ()),))])
FORKS = Program([("m", 1, (("either", (ADD,), (("either", (), (STOP,)),)),
                           ("either", (), (("need", 0, ("is", 1)),))))])
FOREVER = Program([("m", 1, (("while", 0, ("below", 1), (("either", (), ()),)),))])


def one_of(*rows, variables=1):
    return Program([("m", variables, rows)])


def values_of(program, choices=(), fuel=200):
    return run_program(program, choices, fuel).steps[-1][3]


class StepsTest(unittest.TestCase):
    def test_the_example(self):
        run = run_program(EXAMPLE)
        self.assertEqual(run.steps, ((0, "m", 0, (0,)), (0, "m", 1, (0,)), (0, "m", 0, (1,)),
                                     (0, "m", 2, (1,)), (0, "m", 3, (1,))))
        self.assertEqual((run.end, run.used, run.choices), ("done", 0, ()))
        self.assertEqual(run_program(EXAMPLE, (), 200), run)

    def test_deeds_and_copies(self):
        program = one_of(("deed", 1, ("set", 7)), ("copy", 0, 1), ("copy", 2, 2), ("deed", 1, ("turn",)),
                         ("deed", 0, ("mod", 4)), variables=3)
        self.assertEqual([step[3] for step in run_program(program).steps],
                         [(0, 0, 0), (0, 7, 0), (7, 7, 0), (7, 7, 0), (7, -7, 0), (3, -7, 0)])

    def test_needs_and_ifs(self):
        fails = run_program(one_of(ADD, ("need", 0, ("is", 0)), ADD))
        self.assertEqual((fails.end, fails.steps[-1]), ("failed", (0, "m", 1, (1,))))
        fork = ("if", 0, ("is", 0), (ADD, ADD), (("deed", 0, ("add", 5)),))
        self.assertEqual(values_of(one_of(fork)), (2,))
        self.assertEqual(values_of(one_of(ADD, fork)), (6,))

    def test_choices(self):
        program = one_of(("either", (ADD,), (("deed", 0, ("add", 5)),)), ("either", (ADD,), ()))
        for choices, want in (((), 2), ((0,), 2), ((1,), 6), ((0, 1), 1), ((1, 1), 5), ((1, 1, 0, 1), 5)):
            run = run_program(program, choices)
            self.assertEqual((run.steps[-1][3], run.used, run.choices), ((want,), 2, choices))
        self.assertEqual(run_program(program, [1, 1]).choices, (1, 1))
        # Two equal arrows read a choice too.
        self.assertEqual(run_program(one_of(("either", (), ()), ADD), (1,)).used, 1)

    def test_calls(self):
        program = Program([("m", 3, (("deed", 0, ("set", 4)), ("deed", 1, ("set", 9)),
                                     ("call", "p", (1, 0, 1), 2), ADD)),
                           ("p", 4, (("copy", 3, 2), ("copy", 2, 1), ADD))])
        self.assertEqual(run_program(program).steps,
                         ((0, "m", 0, (0, 0, 0)), (0, "m", 1, (4, 0, 0)), (0, "m", 2, (4, 9, 0)),
                          (1, "p", 0, (9, 4, 9, 0)), (1, "p", 1, (9, 4, 9, 9)), (1, "p", 2, (9, 4, 4, 9)),
                          (1, "p", 3, (10, 4, 4, 9)), (0, "m", 3, (4, 9, 10)), (0, "m", 4, (5, 9, 10))))
        # The place behind a call in a loop's block is the loop's own.
        loop = Program([("m", 1, (("while", 0, ("below", 2), (("call", "p", (0,), 0),)),)), ("p", 1, (ADD,))])
        self.assertEqual([(step[1], step[2]) for step in run_program(loop).steps],
                         [("m", 0), ("m", 1), ("p", 0), ("p", 1)] * 2 + [("m", 0), ("m", 2)])

    def test_thousands_of_open_calls(self):
        run = run_program(DEEP, [0] * 1500 + [1], 5000)
        self.assertEqual((run.end, run.steps[-1][3], run.used), ("fuel", (999,), 1501))
        run = run_program(DEEP, [0] * 1200 + [1], 5000)
        self.assertEqual((run.end, run.steps[-1]), ("done", (0, "m", 3, (1200,))))
        run = run_program(DEEP, (), 5000)
        self.assertEqual((run.end, run.steps[-1][0], run.used), ("fuel", 2499, 2500))
        self.assertEqual(open_calls(run, 4999), (("m", 1),) * 2499)

    def test_stop_inside_a_call(self):
        program = Program([("m", 1, (("call", "p", (), 0), ADD)), ("p", 1, (("call", "q", (), 0),)),
                           ("q", 1, (ADD, STOP, ADD))])
        run = run_program(program)
        self.assertEqual((run.end, run.steps[-1]), ("stopped", (2, "q", 1, (1,))))

    def test_fuel(self):
        for fuel in range(1, 5):
            run = run_program(EXAMPLE, (), fuel)
            self.assertEqual((run.end, len(run.steps)), ("fuel", fuel))
        self.assertEqual(run_program(EXAMPLE, (), 5).end, "done")
        self.assertEqual(run_program(one_of(), (), 1).end, "done")
        self.assertEqual(run_program(one_of(STOP), (), 1).end, "stopped")
        # At a need the test tells, whether the fuel has ended or not.
        self.assertEqual(run_program(one_of(("need", 0, ("is", 1))), (), 1).end, "failed")
        self.assertEqual(run_program(one_of(("need", 0, ("is", 0))), (), 1).end, "fuel")
        self.assertEqual(run_program(one_of(("need", 0, ("is", 0))), (), 2).end, "done")
        # END of a callee is no end.
        program = Program([("m", 1, (("call", "p", (), 0),)), ("p", 1, ())])
        self.assertEqual(run_program(program, (), 2).end, "fuel")
        self.assertEqual(run_program(program, (), 3).end, "done")
        self.assertEqual(len(run_program(FOREVER).steps), 200)

    def test_an_either_at_the_last_step_reads_nothing(self):
        run = run_program(FOREVER, [1, 1, 1], 4)
        self.assertEqual((run.end, run.used), ("fuel", 1))
        self.assertEqual(run_program(FOREVER, [1, 1, 1], 5).used, 2)
        self.assertEqual(run_program(one_of(("either", (), ())), (), 1).used, 0)

    def test_wrong_choices_and_fuel(self):
        for choices in (None, "01", {}, 0, [0] * 5001):
            self.assertEqual(error_of(run_program, EXAMPLE, choices, 0), ("BadChoices", -1))
        for choices, at in (((2,), 0), ([0, 1, -1, 2], 2), ((0, True), 1), ((False,), 0), ((0, None), 1),
                            ((0, "0"), 1), ([0] * 4999 + [2], 4999)):
            self.assertEqual(error_of(run_program, EXAMPLE, choices, 0), ("BadChoices", at))
        for fuel in (0, -1, 5001, True, None, "5"):
            self.assertEqual(error_of(run_program, EXAMPLE, [0, 1], fuel), ("BadFuel",))
        choices = [0, 1]
        self.assertIsNone(error_of(run_program, EXAMPLE, [0] * 5000, 5000))
        run = run_program(EXAMPLE, choices, 1)
        choices.append(1)
        self.assertEqual(run.choices, (0, 1))

    def test_random_programs_against_a_plain_run(self):
        rng = random.Random(51)
        for _ in range(300):
            book = random_book(rng)
            program = random_program(rng, book, procedures=rng.randint(1, 4), depth=rng.randint(0, 3))
            choices = [rng.randrange(2) for _ in range(rng.randint(0, 6))]
            fuel = rng.randint(1, 60)
            run = run_program(program, choices, fuel)
            self.assertEqual((list(run.steps), run.end, run.used), plain_run(program, choices, fuel))
            self.assertIsNone(run_fault(program, run))


def plain_run(program, choices, fuel):
    """The steps, the end and how many choices were read, with calls kept in a list."""
    procedures = {name: (variables, plain_places(rows)) for name, variables, rows in program.procedures}
    main = program.procedures[0][0]
    frames = [[main, 0, [0] * procedures[main][0]]]
    steps = []
    used = 0
    while True:
        name, place, values = frames[-1]
        steps.append((len(frames) - 1, name, place, tuple(values)))
        places = procedures[name][1]
        row, targets = places[place] if place < len(places) else (("end",), [])
        if row[0] == "end" and len(frames) == 1:
            return steps, "done", used
        if row[0] == "stop":
            return steps, "stopped", used
        if row[0] == "need" and not passes(row[2], values[row[1]]):
            return steps, "failed", used
        if len(steps) == fuel:
            return steps, "fuel", used
        if row[0] == "end":
            frames.pop()
            caller = frames[-1]
            call, targets = procedures[caller[0]][1][caller[1]]
            caller[2][call[3]] = values[0]
            caller[1] = targets[0]
        elif row[0] == "call":
            handed = [values[v] for v in row[2]]
            frames.append([row[1], 0, handed + [0] * (procedures[row[1]][0] - len(handed))])
        else:
            side = 0
            if row[0] == "deed":
                values[row[1]] = do_letter(row[2], values[row[1]])
            elif row[0] == "copy":
                values[row[1]] = values[row[2]]
            elif row[0] == "either":
                side = choices[used] if used < len(choices) else 0
                used += 1
            elif row[0] in ("if", "while") and not passes(row[2], values[row[1]]):
                side = 1
            frames[-1][1] = targets[side]


class JudgeTest(unittest.TestCase):
    def test_runs_are_results(self):
        run = Run([0, 1], [(0, "m", 0, (0,))], "fuel", 0)
        self.assertEqual((run.choices, run.steps), ((0, 1), ((0, "m", 0, (0,)),)))
        self.assertEqual(run, Run((0, 1), ((0, "m", 0, (0,)),), "fuel", 0))
        for other in (Run((0,), run.steps, "fuel", 0), Run((0, 1), (), "fuel", 0),
                      Run((0, 1), run.steps, "done", 0), Run((0, 1), run.steps, "fuel", 1), None, (0, 1)):
            self.assertNotEqual(run, other)

    def test_right_runs(self):
        for program in (EXAMPLE, DEEP, FORKS, FOREVER):
            for fuel in (1, 2, 3, 7, 30):
                for choices in ((), (1,), (0, 1, 1), [1, 0]):
                    self.assertIsNone(run_fault(program, run_program(program, choices, fuel)))

    def test_each_attribute(self):
        run = run_program(DEEP, (0, 0, 1), 50)
        steps = run.steps
        for at, step in enumerate(steps):
            for part, wrong in enumerate((step[0] + 1, "n", step[2] + 1, (step[3][0] + 1,))):
                changed = step[:part] + (wrong,) + step[part + 1:]
                one = Run(run.choices, steps[:at] + (changed,) + steps[at + 1:], "x", 9)
                self.assertEqual(run_fault(DEEP, one), ("step", at))
        self.assertEqual(run_fault(DEEP, Run(run.choices, (), "done", 3)), ("step", 0))
        self.assertEqual(run_fault(DEEP, Run(run.choices, steps + (steps[-1],), "done", 3)),
                         ("step", len(steps)))
        # Other choices lead elsewhere.
        self.assertEqual(run_fault(DEEP, Run((0, 1), steps, "done", 3)), ("step", 3))
        for end in ("fuel", "failed", "stopped", "", None):
            self.assertEqual(run_fault(DEEP, Run(run.choices, steps, end, 9)), ("end",))
        for used in (2, 4, 0, -1, None):
            self.assertEqual(run_fault(DEEP, Run(run.choices, steps, "done", used)), ("used",))

    def test_shorter_runs_end_by_fuel(self):
        run = run_program(DEEP, (0, 0, 1), 50)
        self.assertEqual(run_fault(DEEP, Run(run.choices, run.steps[:4], "done", 3)), ("end",))
        self.assertEqual(run_fault(DEEP, Run(run.choices, run.steps[:4], "fuel", 3)), ("used",))
        self.assertIsNone(run_fault(DEEP, Run(run.choices, run.steps[:4], "fuel", 2)))
        # Choices that were never read are choices still.
        self.assertIsNone(run_fault(DEEP, Run((0, 0, 1, 1, 1), run.steps, "done", 3)))


class AllRunsTest(unittest.TestCase):
    def test_one_run(self):
        self.assertEqual(all_runs(EXAMPLE, 200), (run_program(EXAMPLE),))
        self.assertEqual(all_runs(EXAMPLE, 200, 1), (run_program(EXAMPLE),))

    def test_in_the_order_of_choices(self):
        runs = all_runs(FORKS, 100)
        self.assertEqual([(run.choices, run.end) for run in runs],
                         [((0, 0), "done"), ((0, 1), "done"), ((1, 0, 0), "done"), ((1, 0, 1), "failed"),
                          ((1, 1), "stopped")])
        for run in runs:
            self.assertEqual(run_program(FORKS, run.choices, 100), run)
            self.assertEqual(run.used, len(run.choices))

    def test_against_all_choices(self):
        rng = random.Random(52)
        for _ in range(120):
            book = random_book(rng)
            program = random_program(rng, book, procedures=2, depth=2, words=(
                "deed", "either", "either", "while", "call", "need", "stop"))
            fuel = rng.randint(1, 8)
            want = {}
            for choices in itertools.product((0, 1), repeat=7):
                run = run_program(program, choices, fuel)
                self.assertLessEqual(run.used, 7)
                want[choices[:run.used]] = (run.steps, run.end, run.used)
            runs = all_runs(program, fuel, 400)
            self.assertEqual([run.choices for run in runs], sorted(want))
            for run in runs:
                self.assertEqual((run.steps, run.end, run.used), want[run.choices])

    def test_too_many(self):
        self.assertEqual(len(all_runs(FORKS, 100, 5)), 5)
        for most in (1, 2, 3, 4):
            self.assertEqual(error_of(all_runs, FORKS, 100, most), ("TooMany", most))
        # DEEP comes to an either at each other step, and one run more never ends it.
        self.assertEqual(len(all_runs(DEEP, 127)), 64)
        self.assertEqual(error_of(all_runs, DEEP, 128), ("TooMany", 64))
        self.assertEqual(len(all_runs(DEEP, 799, 400)), 400)
        self.assertEqual(error_of(all_runs, FOREVER, 5000, 400), ("TooMany", 400))

    def test_errors(self):
        for fuel in (0, 5001, True, None, (1,)):
            self.assertEqual(error_of(all_runs, FORKS, fuel, 0), ("BadFuel",))
        for most in (0, 401, True, None, "1"):
            self.assertEqual(error_of(all_runs, FORKS, 5000, most), ("BadMost",))


class OpenCallsTest(unittest.TestCase):
    def test_calls_that_have_not_come_back(self):
        program = Program([("m", 1, (ADD, ("call", "p", (), 0), ("call", "p", (), 0))),
                           ("p", 1, (("call", "q", (), 0), ADD)), ("q", 1, ())])
        run = run_program(program)
        first = (("m", 1),)
        second = (("m", 2),)
        want = [(), (), first, first + (("p", 0),), first, first,
                (), second, second + (("p", 0),), second, second, ()]
        self.assertEqual([open_calls(run, at) for at in range(len(run.steps))], want)

    def test_as_many_as_the_depth(self):
        rng = random.Random(53)
        for _ in range(60):
            program = random_program(rng, random_book(rng), procedures=4, words=("deed", "call", "if"))
            run = run_program(program, (), 80)
            places = {name: plain_places(rows) for name, _, rows in program.procedures}
            for at, step in enumerate(run.steps):
                calls = open_calls(run, at)
                self.assertEqual(len(calls), step[0])
                names = [program.main]
                for name, place in calls:
                    self.assertEqual(name, names[-1])
                    names.append(places[name][place][0][1])
                self.assertEqual(names[-1], step[1])

    def test_wrong_steps(self):
        run = run_program(EXAMPLE)
        self.assertEqual(open_calls(run, 4), ())
        for at in (-1, 5, True, False, None, "0", 1.0):
            self.assertEqual(error_of(open_calls, run, at), ("BadStep",))
        self.assertEqual(error_of(open_calls, Run((), (), "fuel", 0), 0), ("BadStep",))


if __name__ == "__main__":
    unittest.main()
