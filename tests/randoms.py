"""Random books and programs, and plain climbing that shares no code with the package's."""

from truebooks.beneath import beneath_lots
from truebooks.books import Book
from truebooks.errors import BookError
from truebooks.lots import either_lot, empty_lot, just_lot, make_lot
from truebooks.programs import Program
from truebooks.told import told_words

LETTERS = [("set", 0), ("add", 1), ("turn",), ("mod", 3), ("add", -2), ("set", 2)]
TESTS = [("below", 2), ("is", 0), ("rest", 2, 1), ("is", 3)]


def union_closed(rng, atoms, many):
    """Sets closed under unions, the empty one first, at most 12 of them."""
    sets = [frozenset()]
    for _ in range(many):
        fresh = frozenset(atom for atom in range(atoms) if rng.random() < 0.5)
        closed = set(sets) | {fresh | elder for elder in sets}
        if len(closed) <= 12:
            sets = sorted(closed, key=lambda word: (len(word), sorted(word)))
    if len(sets) == 1:
        sets.append(frozenset([0]))
    return sets


def rising_row(rng, joins, nones):
    """A row that rises: the join of what random words at and below each word bring."""
    many = len(joins)
    seeds = [0] + [0 if rng.random() < nones else rng.randrange(1, many) for _ in range(1, many)]
    row = []
    for word in range(many):
        joined = 0
        for below in range(many):
            if joins[below][word] == word:
                joined = joins[joined][seeds[below]]
        row.append(joined)
    return row


def random_book(rng, atoms=3, nones=0.4, letters=3, tests=2):
    """A book over sets, with tables that rise but need not cover its meanings."""
    sets = union_closed(rng, atoms, 4)
    many = len(sets)
    joins = [[sets.index(one | other) for other in sets] for one in sets]
    seeds = [rng.choice([empty_lot(), just_lot([rng.randint(-3, 3)]), make_lot(0, -1, (), 2, (0,), (0,))])
             for _ in sets]
    meanings = []
    for word in range(many):
        lot = empty_lot()
        for below in range(1, many):
            if joins[below][word] == word:
                lot = either_lot(lot, seeds[below])
        meanings.append(lot)
    chosen = [("set", 0)] + rng.sample(LETTERS[1:], letters - 1)
    asked = rng.sample(TESTS, tests)
    return Book(chosen, asked, joins, meanings,
                [rising_row(rng, joins, nones / 2) for _ in chosen],
                [rising_row(rng, joins, nones) for _ in asked],
                [rising_row(rng, joins, nones) for _ in asked], rng.randrange(1, many))


def random_program(rng, book, procedures=3, variables=2, depth=2, most=3, words=None):
    """A program over the alphabet of a book; words tells the kinds of rows that may stand."""
    names = ["main", "p", "q", "r", "s"][:procedures]
    sizes = {name: rng.randint(1, variables) for name in names}

    def block(name, left):
        return tuple(row(name, left) for _ in range(rng.choice((0, 1, 1, 2, most))))

    def row(name, left):
        kinds = words or ("deed", "deed", "copy", "need", "if", "either", "while", "call", "call", "stop")
        kind = rng.choice(kinds)
        many = sizes[name]
        v = rng.randrange(many)
        if kind in ("if", "either", "while") and left == 0:
            kind = "deed"
        if kind in ("need", "if", "while") and not book.tests:
            kind = "deed"
        if kind == "stop" and rng.random() < 0.7:
            kind = "copy"
        if kind == "deed":
            return ("deed", v, rng.choice(book.letters))
        if kind == "copy":
            return ("copy", v, rng.randrange(many))
        if kind == "need":
            return ("need", v, rng.choice(book.tests))
        if kind == "if":
            return ("if", v, rng.choice(book.tests), block(name, left - 1), block(name, left - 1))
        if kind == "either":
            return ("either", block(name, left - 1), block(name, left - 1))
        if kind == "while":
            return ("while", v, rng.choice(book.tests), block(name, left - 1))
        if kind == "stop":
            return ("stop",)
        callee = rng.choice(names)
        args = tuple(rng.randrange(many) for _ in range(rng.randint(0, sizes[callee])))
        return ("call", callee, args, v)

    return Program([(name, sizes[name], block(name, depth) + (row(name, depth),)) for name in names])


def blocks_of(row):
    return {"if": row[3:], "either": row[1:], "while": row[3:]}.get(row[0], ())


def size_of(rows):
    return sum(1 + sum(size_of(block) for block in blocks_of(row)) for row in rows)


def plain_places(rows):
    """The couples (row, targets of its arrows) by places, found without the package."""
    flat = []

    def walk(block, behind):
        for at, row in enumerate(block):
            place = len(flat)
            following = place + size_of([row]) if at + 1 < len(block) else behind
            inner = place if row[0] == "while" else following
            heads = []
            head = place + 1
            for part in blocks_of(row):
                heads.append(head if part else inner)
                head += size_of(part)
            if row[0] == "stop":
                heads = []
            elif row[0] == "while":
                heads = [heads[0], following]
            elif row[0] not in ("if", "either"):
                heads = [following]
            flat.append((row, heads))
            for part in blocks_of(row):
                walk(part, inner)

    walk(rows, size_of(rows))
    return flat


def put(row, v, word):
    return None if word == 0 else row[:v] + (word,) + row[v + 1:]


def plain_moves(book, row, words, result):
    """The rows of words behind a row's arrows, in order."""
    kind = row[0]
    if kind == "deed":
        return [put(words, row[1], book.deeds[book.letters.index(row[2])][words[row[1]]])]
    if kind == "copy":
        return [put(words, row[1], words[row[2]])]
    if kind == "call":
        return [put(words, row[3], result)]
    if kind == "either":
        return [words, words]
    if kind == "stop":
        return []
    at = book.tests.index(row[2])
    sides = [put(words, row[1], book.so[at][words[row[1]]]),
             put(words, row[1], book.not_so[at][words[row[1]]])]
    return sides[:1] if kind == "need" else sides


def join(book, one, other):
    if one is None or other is None:
        return other if one is None else one
    return tuple(book.joins[a][b] for a, b in zip(one, other))


def plain_family(book, program, treatment):
    """The least tables of the nodes asked from the first one, by going over all again and again."""
    procedures = {name: (variables, plain_places(rows)) for name, variables, rows in program.procedures}
    main = program.procedures[0][0]
    start = (book.first,) * procedures[main][0]
    first = (main, start if treatment == "entry" else ())
    tables = {}

    def table(node):
        if node not in tables:
            tables[node] = [None] * (len(procedures[node[0]][1]) + 1)
            if treatment == "entry":
                tables[node][0] = node[1]
        return tables[node]

    def asked(node, place, row, words):
        _, callee, sources, _ = row
        lacking = procedures[callee][0] - len(sources)
        entry = tuple(words[v] for v in sources) + (book.first,) * lacking
        if treatment == "entry":
            return (callee, entry), entry
        if treatment == "one":
            return (callee, ()), entry
        return (callee, (node[1] + ((node[0], place),))[-treatment[1]:]), entry

    table(first)[0] = start
    changed = True
    while changed:
        before = {node: list(rows) for node, rows in tables.items()}
        for node in list(tables):
            for place, (row, targets) in enumerate(procedures[node[0]][1]):
                words = tables[node][place]
                if words is None:
                    continue
                result = 0
                if row[0] == "call":
                    other, entry = asked(node, place, row, words)
                    table(other)[0] = join(book, table(other)[0], entry)
                    behind = table(other)[-1]
                    result = behind[0] if behind else 0
                for target, after in zip(targets, plain_moves(book, row, words, result)):
                    tables[node][target] = join(book, tables[node][target], after)
        changed = before != tables
    found = [first]
    for node in found:
        for place, (row, _) in enumerate(procedures[node[0]][1]):
            if row[0] == "call" and tables[node][place] is not None:
                other, _ = asked(node, place, row, tables[node][place])
                if other not in found:
                    found.append(other)
    return {node: tuple(tables[node]) for node in sorted(found)}


def told_meanings(book):
    """The least meanings with which a book never lies, or None where no meanings will do."""
    lots = beneath_lots(book)
    if not lots[0].bare:
        return None
    meanings = []
    for word in range(book.many):
        meaning = empty_lot()
        for below in told_words(book):
            if book.joins[below][word] == word:
                meaning = either_lot(meaning, lots[below])
        meanings.append(meaning)
    return meanings


def remade(book, **changes):
    """The book with some of its parts changed."""
    parts = {name: getattr(book, name) for name in
             ("letters", "tests", "joins", "meanings", "deeds", "so", "not_so", "first")}
    parts.update(changes)
    return Book(**parts)


def sound_book(rng, **more):
    """A random book that never lies."""
    while True:
        book = random_book(rng, **more)
        meanings = told_meanings(book)
        if meanings is not None:
            try:
                return remade(book, meanings=meanings)
            except BookError:
                pass


LOOP_LETTERS = [("set", 0), ("add", 1), ("add", 2), ("add", -2), ("turn",), ("mod", 3)]
LOOP_TESTS = [("rest", 2, 0), ("rest", 3, 1), ("below", 5), ("is", 4), ("rest", 1, 0)]


def loop_program(rng, ends=0.8):
    """A plain program of loops with choices in them, with needs between."""
    def deeds():
        return tuple(("deed", 0, rng.choice(LOOP_LETTERS)) for _ in range(rng.randint(0, 2)))

    rows = deeds()
    for _ in range(rng.randint(1, 2)):
        row = ("either", deeds(), deeds())
        if rng.random() < 0.3:
            row = ("if", 0, rng.choice(LOOP_TESTS), deeds(), (row,))
        if rng.random() < 0.8:
            row = ("while", 0, rng.choice(LOOP_TESTS), (row, *deeds()))
        rows += (row, *deeds())
        if rng.random() < ends:
            rows += (("need", 0, rng.choice(LOOP_TESTS)),)
    return Program([("main", 1, rows)])


def loop_book(rng, nones=0.2):
    """A random book over the alphabet of loop_program."""
    book = random_book(rng, nones=nones)
    tables = [[rising_row(rng, book.joins, nones / part) for _ in items]
              for part, items in ((2, LOOP_LETTERS), (1, LOOP_TESTS), (1, LOOP_TESTS))]
    return remade(book, letters=LOOP_LETTERS, tests=LOOP_TESTS, deeds=tables[0], so=tables[1], not_so=tables[2])


def plain_program(rng, book, depth=2, most=3, ends=0.1):
    """A random program of one procedure with one variable and no call; few of its rows end runs."""
    def block(left, least):
        return tuple(row(left) for _ in range(rng.randint(least, most)))

    def row(left):
        deed = ("deed", 0, rng.choice(book.letters))
        if rng.random() < ends:
            return ("need", 0, rng.choice(book.tests)) if book.tests and rng.random() < 0.8 else ("stop",)
        kind = rng.choice(("deed", "deed", "copy", "if", "either", "while", "while"))
        if kind == "copy":
            return ("copy", 0, 0)
        if kind == "deed" or left == 0 or not book.tests and kind != "either":
            return deed
        if kind == "either":
            return ("either", block(left - 1, 0), block(left - 1, 0))
        if kind == "if":
            return ("if", 0, rng.choice(book.tests), block(left - 1, 0), block(left - 1, 0))
        # A choice first, so that few loops go on for ever.
        inner = (("either", block(left - 1, 1), block(left - 1, 1)), *block(left - 1, 0))
        return ("while", 0, rng.choice(book.tests), inner)

    rows = block(depth, 1)
    while size_of(rows) > 59:
        rows = block(depth, 1)
    if book.tests:
        rows += (("need", 0, rng.choice(book.tests)),)
    return Program([("main", 1, rows)])


def kin(rng, book, changes=2):
    """A book over the same alphabet with the same words and some other rows."""
    tables = [[list(row) for row in table] for table in (book.deeds, book.so, book.not_so)]
    for _ in range(changes):
        table = rng.choice([table for table in tables if table])
        table[rng.randrange(len(table))] = rising_row(rng, book.joins, 0.3)
    return remade(book, deeds=tables[0], so=tables[1], not_so=tables[2])


def two_books(rng):
    """Two books over one alphabet, near to each other or not."""
    one = random_book(rng, nones=rng.choice((0, 0.2, 0.5)), letters=rng.randint(1, 4))
    if rng.random() < 0.6:
        return one, kin(rng, one, rng.randint(0, 3))
    other = random_book(rng, nones=0.3)
    deeds = [rising_row(rng, other.joins, 0.1) for _ in one.letters]
    tables = [[rising_row(rng, other.joins, 0.4) for _ in one.tests] for _ in range(2)]
    return one, remade(other, letters=one.letters, tests=one.tests, deeds=deeds, so=tables[0], not_so=tables[1])
