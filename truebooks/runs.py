"""Runs of programs with integers as values."""

from truebooks.basics import is_sequence, is_whole_from
from truebooks.errors import BadChoices, BadFuel, BadMost, BadStep, TooMany
from truebooks.letters import do_letter, passes
from truebooks.places import arrows_of, flat_rows
from truebooks.programs import procedure_of

MOST_CHOICES = 5000
MOST_FUEL = 5000
MOST_RUNS = 400


class Run:
    """One run: its choices, its steps, the word for its end, and how many choices it read."""

    def __init__(self, choices, steps, end, used):
        self.choices = tuple(choices)
        self.steps = tuple(steps)
        self.end = end
        self.used = used

    def __eq__(self, other):
        return (isinstance(other, Run) and self.choices == other.choices
                and self.steps == other.steps and self.end == other.end
                and self.used == other.used)


class Walk:
    """A run on its way: its present state, the steps up to now and the choices it read."""

    def __init__(self, program):
        self.program = program
        # For each procedure that was run: (variables, rows by places, arrows by places).
        self.ways = {}
        variables = self._way(program.main)[0]
        # A state is a step, and behind it the state at the innermost open call or None.
        # States are never changed, so a run can be taken back to each of them.
        self.state = (0, program.main, 0, (0,) * variables, None)
        self.steps = [self.state[:4]]
        self.read = []

    def _way(self, name):
        if name not in self.ways:
            _, variables, rows = procedure_of(self.program, name)
            self.ways[name] = (variables, [*flat_rows(rows), None], arrows_of(self.program, name))
        return self.ways[name]

    def _row(self):
        """Return the row at the present place, None at END."""
        return self._way(self.state[1])[1][self.state[2]]

    def end_word(self):
        """Return the word with which the run ends at the present step, or None."""
        row = self._row()
        if row is None:
            return "done" if self.state[0] == 0 else None
        if row[0] == "need" and not passes(row[2], self.state[3][row[1]]):
            return "failed"
        return "stopped" if row[0] == "stop" else None

    def asks(self):
        """Tell whether the run reads a choice when it goes on."""
        row = self._row()
        return row is not None and row[0] == "either"

    def go_on(self, choice):
        """Go on by one step; the choice is read where an either row is left."""
        if self.asks():
            self.read.append(choice)
        row = self._row()
        if row is None:
            self._leave()
        elif row[0] == "call":
            self._enter(row)
        else:
            depth, name, place, values, call = self.state
            arrows = self._way(name)[2][place]
            target, values = _followed(row, arrows, values, choice)
            self.state = (depth, name, target, values, call)
        self.steps.append(self.state[:4])

    def _enter(self, row):
        depth, _, _, values, _ = self.state
        _, callee, sources, _ = row
        lacking = self._way(callee)[0] - len(sources)
        values = tuple([values[source] for source in sources]) + (0,) * lacking
        self.state = (depth + 1, callee, 0, values, self.state)

    def _leave(self):
        number = self.state[3][0]
        depth, name, place, values, call = self.state[4]
        act, target = self._way(name)[2][place][0]
        self.state = (depth, name, target, _with(values, act[3], number), call)

    def take_back(self, steps, read, state):
        """Go back to a state that was there behind so many steps and choices read."""
        self.steps = self.steps[:steps]
        self.read = self.read[:read]
        self.state = state

    def run(self, choices):
        """Return the run up to here by the choices that it is said to have."""
        end = self.end_word()
        return Run(choices, self.steps, "fuel" if end is None else end, len(self.read))


def _with(values, variable, number):
    return values[:variable] + (number,) + values[variable + 1:]


def _followed(row, arrows, values, choice):
    """Return the target of the arrow that a row lets through, and the values there."""
    word = row[0]
    at = 0
    if word == "deed":
        values = _with(values, row[1], do_letter(row[2], values[row[1]]))
    elif word == "copy":
        values = _with(values, row[1], values[row[2]])
    elif word == "either":
        at = choice
    elif word in ("if", "while"):
        at = 0 if passes(row[2], values[row[1]]) else 1
    return arrows[at][1], values


def run_program(program, choices=(), fuel=200):
    """Return the run by choices with that fuel, or raise BadChoices or BadFuel."""
    _check_choices(choices)
    _check_fuel(fuel)
    walk = Walk(program)
    while len(walk.steps) < fuel and walk.end_word() is None:
        at = len(walk.read)
        walk.go_on(choices[at] if at < len(choices) else 0)
    return walk.run(choices)


def _check_choices(choices):
    if not is_sequence(choices) or len(choices) > MOST_CHOICES:
        raise BadChoices(-1)
    for at, choice in enumerate(choices):
        if not is_whole_from(choice, 0, 1):
            raise BadChoices(at)


def _check_fuel(fuel):
    if not is_whole_from(fuel, 1, MOST_FUEL):
        raise BadFuel()


def run_fault(program, one):
    """Return None if a run is what run_program tells, else the first fault."""
    if not one.steps:
        return ("step", 0)
    right = run_program(program, one.choices, len(one.steps))
    for at, step in enumerate(one.steps):
        if at >= len(right.steps) or right.steps[at] != step:
            return ("step", at)
    if one.end != right.end:
        return ("end",)
    return None if one.used == right.used else ("used",)


def all_runs(program, fuel, most=64):
    """Return all runs with that fuel, or raise BadFuel, BadMost or TooMany."""
    _check_fuel(fuel)
    if not is_whole_from(most, 1, MOST_RUNS):
        raise BadMost()
    runs = []
    walk = Walk(program)
    # Where runs can still part, the last one last: they take 1 where the present one takes 0.
    branches = []
    while True:
        while len(walk.steps) < fuel and walk.end_word() is None:
            if walk.asks():
                branches.append((len(walk.steps), len(walk.read), walk.state))
            walk.go_on(0)
        runs.append(walk.run(walk.read))
        if len(runs) + len(branches) > most:
            raise TooMany(most)
        if not branches:
            return tuple(runs)
        steps, read, state = branches.pop()
        walk.take_back(steps, read, state)
        walk.go_on(1)


def open_calls(one, at):
    """Return the places of the calls that are open at a step of a run, or raise BadStep."""
    if not is_whole_from(at, 0, len(one.steps) - 1):
        raise BadStep()
    calls = []
    for number in range(at):
        depth, name, place, _ = one.steps[number]
        behind = one.steps[number + 1][0]
        if behind > depth:
            calls.append((name, place))
        elif behind < depth:
            calls.pop()
    return tuple(calls)
