"""What several test files share: errors as tuples, example books, small machines."""

import random

from truebooks.books import Book
from truebooks.calls import answer_program, node_of_calls, row_told
from truebooks.errors import BookError
from truebooks.lots import empty_lot, just_lot, make_lot, range_lot, whole_lot
from truebooks.numbermachine import Machine, move_number
from truebooks.runs import open_calls
from truebooks.treatments import first_key

TREATMENTS = ("entry", ("callers", 3), ("callers", 2), ("callers", 1), "one")
FOUR = ((0, 1, 2, 3), (1, 1, 3, 3), (2, 3, 2, 3), (3, 3, 3, 3))


def error_of(function, *args, **more):
    """Return (name of the error, its attributes in order) that a call raises, or None."""
    try:
        function(*args, **more)
    except BookError as error:
        return (type(error).__name__, *vars(error).values())
    return None


def evens():
    return make_lot(0, -1, (), 2, (0,), (0,))


def odds():
    return make_lot(0, -1, (), 2, (1,), (1,))


def parity_parts():
    """The parts of the example book of part 3: NONE, E, O, any."""
    return {
        "letters": (("set", 0), ("add", 1)),
        "tests": (),
        "joins": FOUR,
        "meanings": (empty_lot(), evens(), odds(), whole_lot()),
        "deeds": ((0, 1, 1, 1), (0, 2, 1, 3)),
        "so": (),
        "not_so": (),
        "first": 1,
    }


def parity_book(**changes):
    parts = parity_parts()
    parts.update(changes)
    return Book(**parts)


def sign_parts():
    """A book with tests: NONE, Z (just 0), P (from 1), any."""
    return {
        "letters": (("set", 0), ("add", 1), ("turn",), ("mod", 3)),
        "tests": (("is", 0), ("below", 1)),
        "joins": FOUR,
        "meanings": (empty_lot(), just_lot([0]), range_lot(1, None), whole_lot()),
        "deeds": ((0, 1, 1, 1), (0, 2, 2, 3), (0, 1, 3, 3), (0, 1, 3, 3)),
        "so": ((0, 1, 0, 1), (0, 1, 0, 3)),
        "not_so": ((0, 0, 2, 3), (0, 0, 2, 2)),
        "first": 1,
    }


def sign_book(**changes):
    parts = sign_parts()
    parts.update(changes)
    return Book(**parts)


def sibling_book():
    """The book of [12.9]."""
    return Book((("set", 0), ("add", 1)), (("is", 0),), FOUR, [empty_lot()] + [whole_lot()] * 3,
                ((0, 1, 1, 1), (0, 2, 3, 3)), ((0, 1, 0, 1),), ((0, 0, 2, 2),), 1)


def chain_book(many):
    """A book of so many words, each at most the next one."""
    joins = [[max(a, b) for b in range(many)] for a in range(many)]
    meanings = [empty_lot()] + [range_lot(0, word) for word in range(1, many)]
    return Book([("set", 0)], [], joins, meanings, [[0] + [1] * (many - 1)], [], [], 1)


def ring_book(ups, downs, more=()):
    """A book whose numbers beneath words come round late, with further letters that tell the top.

    One ring of words adds 19 and another one 17; all else tells the top word.
    """
    many = 3 + ups + downs
    top = many - 1
    joins = [[b if a == 0 else a if b in (0, a) else top for b in range(many)] for a in range(many)]
    up = [0, 2, *[2 + (at + 1) % ups for at in range(ups)], *[top] * downs, top]
    down = [0, 2 + ups, *[top] * ups, *[2 + ups + (at + 1) % downs for at in range(downs)], top]
    first = [0] + [1] * top
    return Book([("set", 0), ("add", 19), ("add", 17), *more], [], joins,
                [empty_lot()] + [whole_lot()] * top,
                [first, up, down, *[[0] + [top] * top for _ in more]], [], [], 1)


def word_at(book, program, answer, run, at, variable):
    """The word that an answer tells for a variable at a step of a run, NONE if there is no row."""
    node = node_of_calls(book, program, answer, open_calls(run, at))
    row = None if node is None else row_told(answer, node, run.steps[at][2])
    return 0 if row is None else row[variable]


def row_at_end(book, program, treatment):
    """The row at END of main that a treatment tells."""
    answer = answer_program(book, program, treatment)
    return row_told(answer, (program.main, first_key(book, treatment, program)), -1)


def random_test(rng, most, rests):
    word = rng.choice(("below", "is", "rest"))
    if word == "rest":
        modulus = rng.randint(1, rests)
        return (word, modulus, rng.randrange(modulus))
    return (word, rng.randint(-most, most))


def random_move(rng, most, rests):
    word = rng.choice(("stay", "so", "not", "set", "add", "add", "turn", "mod"))
    if word == "stay":
        return ("stay",)
    if word in ("so", "not"):
        return (word, random_test(rng, most, rests))
    if word == "turn":
        return ("deed", ("turn",))
    if word == "mod":
        return ("deed", ("mod", rng.randint(1, rests)))
    return ("deed", (word, rng.randint(-most, most)))


def random_machine(seed):
    rng = random.Random(seed)
    stations = rng.randint(1, 6)
    most = rng.choice((1, 2, 3, 5))
    rests = rng.choice((1, 2, 3, 4))
    far = rng.choice((0, 2, 8))
    starts = [(rng.randrange(stations), rng.randint(-far, far)) for _ in range(rng.randint(0, 3))]
    arrows = [(rng.randrange(stations), random_move(rng, most, rests), rng.randrange(stations))
              for _ in range(rng.randint(0, 3 * stations + 2))]
    return Machine(stations, starts, arrows)


def met_couples(machine, limit):
    """The couples that runs meet whose numbers stay from -limit to limit."""
    seen = set(machine.starts)
    waiting = list(seen)
    while waiting:
        station, number = waiting.pop()
        for origin, move, target in machine.arrows:
            if origin == station:
                after = move_number(move, number)
                if after is not None and abs(after) <= limit and (target, after) not in seen:
                    seen.add((target, after))
                    waiting.append((target, after))
    return seen


def add(by):
    return ("deed", ("add", by))


def two_rings(up, down, by=1):
    """A ring of up stations that adds, and one of down stations that takes away again.

    Only station 0 leads to the other ring, so ways can go up far before they come back.
    """
    arrows = [(at, add(by), (at + 1) % up) for at in range(up)]
    arrows.append((0, ("stay",), up))
    arrows.extend([(up + at, add(-by), up + (at + 1) % down) for at in range(down)])
    return Machine(up + down, [(0, 0)], arrows)


def rings(lengths, by=1):
    """Rings of stations that add, of these lengths, each with a start."""
    starts = []
    arrows = []
    first = 0
    for length in lengths:
        starts.append((first, 0))
        arrows.extend([(first + at, add(by), first + (at + 1) % length) for at in range(length)])
        first += length
    return Machine(first, starts, arrows)


def beside(one, other):
    """Two machines as one: the stations of the other follow those of the one."""
    first = one.stations
    starts = [*one.starts, *[(station + first, number) for station, number in other.starts]]
    arrows = [*one.arrows, *[(origin + first, move, target + first)
                             for origin, move, target in other.arrows]]
    return Machine(first + other.stations, starts, arrows)
