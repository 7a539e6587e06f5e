"""Couples of words that two books can tell at one place, and programs that tell them."""

from truebooks.basics import is_whole
from truebooks.errors import NoCouple, OtherAlphabet
from truebooks.packages import reached_program
from truebooks.tables import step_word
from truebooks.told import book_steps, row_of_step


def check_same_alphabet(one, other):
    """Raise OtherAlphabet unless two books have equal letters and equal tests, in order."""
    if one.letters != other.letters or one.tests != other.tests:
        raise OtherAlphabet()


def couples_told(one, other):
    """Return the ascending couples of words that can be told, or raise OtherAlphabet."""
    return tuple(sorted(whys_of_couples(one, other)))


def whys_of_couples(one, other):
    """Return by couples how each comes up from couples ahead of it, or raise OtherAlphabet.

    A why is ("first",), ("step", couple, step), ("join", couple, couple) or ("kill", couple,
    couple), the last of these having NONE on the side that is killed.
    """
    check_same_alphabet(one, other)
    steps = book_steps(one)
    found = [(one.first, other.first)]
    whys = {found[0]: ("first",)}
    number = 0
    while number < len(found):
        couple = found[number]
        number += 1
        fresh = [((step_word(one, step, couple[0]), step_word(other, step, couple[1])),
                  ("step", couple, step)) for step in steps]
        for elder in found[:number]:
            joined = (one.joins[couple[0]][elder[0]], other.joins[couple[1]][elder[1]])
            fresh.append((joined, ("join", couple, elder)))
            fresh.append((_killed(couple, elder), ("kill", couple, elder)))
            fresh.append((_killed(elder, couple), ("kill", elder, couple)))
        for behind, why in fresh:
            if behind != (0, 0) and behind not in whys:
                whys[behind] = why
                found.append(behind)
    return whys


def _killed(couple, killer):
    """Return the couple with NONE on each side on which the killer has it."""
    return (0 if killer[0] == 0 else couple[0], 0 if killer[1] == 0 else couple[1])


def couple_program(one, other, word, partner):
    """Return a program that tells a couple at END of main, or raise NoCouple."""
    whys = whys_of_couples(one, other)
    if not is_whole(word) or not is_whole(partner) or (word, partner) not in whys:
        raise NoCouple()
    return program_of_couple(whys, (word, partner))


def program_of_couple(whys, couple, rows=()):
    """Return a program whose main has a couple told in its one variable, and then has rows."""
    names = {told: f"c{number}" for number, told in enumerate(whys)}
    procedures = [("main", 1, (_call_of(names, couple), *rows))]
    procedures.extend([_procedure_of(names, told, why) for told, why in whys.items()])
    return reached_program(procedures)


def _call_of(names, couple, variable=0):
    return ("call", names[couple], (), variable)


def _procedure_of(names, couple, why):
    """Return the procedure that makes a couple of those that it comes from."""
    name = names[couple]
    if why[0] == "first":
        return (name, 1, ())
    elder = _call_of(names, why[1])
    if why[0] == "step":
        return (name, 1, (elder, row_of_step(why[2], 0)))
    if why[0] == "join":
        return (name, 1, (("either", (elder,), (_call_of(names, why[2]),)),))
    return (name, 2, (elder, _call_of(names, why[2], 1)))
