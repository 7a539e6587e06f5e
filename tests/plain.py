"""Plain programs for tests, and the numbers that their runs have, found without the package's lots."""

from randoms import plain_places
from truebooks.letters import do_letter, passes
from truebooks.programs import Program

ADD = ("deed", 0, ("add", 1))
NEED = ("need", 0, ("is", 3))
COUNT = Program([("main", 1, (("while", 0, ("below", 3), (ADD,)), NEED))])
FAR = 60


def rows_of(program):
    return plain_places(program.procedures[0][2])


def behind(row, number):
    """What a row makes of a number along each of its arrows, None where it is barred."""
    kind = row[0]
    if kind == "deed":
        return [do_letter(row[2], number)]
    if kind in ("if", "while"):
        holds = passes(row[2], number)
        return [number if holds else None, None if holds else number]
    if kind == "need":
        return [number if passes(row[2], number) else None]
    return [number] * (2 if kind == "either" else 1)


def plain_states(program, far=FAR):
    """For each (place, number) that runs with near numbers have, the fewest steps to it."""
    places = rows_of(program)
    steps = {(0, 0): 1}
    waiting = [(0, 0)]
    for place, number in waiting:
        if place == len(places):
            continue
        row, targets = places[place]
        for target, after in zip(targets, behind(row, number)):
            if after is not None and abs(after) <= far and (target, after) not in steps:
                steps[target, after] = steps[place, number] + 1
                waiting.append((target, after))
    return steps


def unfit_programs():
    call = ("call", "main", (0,), 0)
    many = (ADD,) * 59
    return (
        (Program([("main", 2, (call, *many, *many)), ("p", 1, ())]), "procedures"),
        (Program([("main", 2, (call, *many, *many))]), "variables"),
        (Program([("main", 1, (call, *many, *many))]), "calls"),
        (Program([("main", 1, (("either", (call,), ()),))]), "calls"),
        (Program([("main", 1, (*many, ADD, ADD))]), "rows"),
        (Program([("main", 1, (("either", many, (ADD,)),))]), "rows"),
    )


def long_programs():
    """Plain programs whose numbers come round too late, with the bounds that they pass."""
    def ring(adds, by):
        return ("while", 0, ("rest", 1, 0), (("either", (("stop",),), ()), *[("deed", 0, ("add", by))] * adds))

    def rings(more, one, other):
        return Program([("main", 1, (*more, ("either", (ring(*one),), (ring(*other),)), NEED))])

    rest = (("deed", 0, ("mod", 2)),)
    return ((rings((), (3, 19), (5, 17)), None), (rings(rest, (3, 19), (5, 17)), 10080),
            (rings((("deed", 0, ("mod", 3)),), (5, 19), (4, 17)), 2000))
