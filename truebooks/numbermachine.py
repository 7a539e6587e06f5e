"""Machines: stations with numbers that move along arrows, and the rooms beyond the rim."""

from math import lcm

from truebooks.basics import is_sequence, is_sequence_of, is_whole_from
from truebooks.errors import BadMachine, BadMove
from truebooks.letters import do_letter, fits_letter, fits_test, passes

MOST_STATIONS = 200
MOST_STARTS = 60
MOST_ARROWS = 4000
FARTHEST_START = 1000


def fits_move(move):
    """Tell whether a thing is a tuple or a list that says a move."""
    if not is_sequence(move) or not move:
        return False
    if move[0] == "stay":
        return len(move) == 1
    if len(move) != 2:
        return False
    if move[0] == "deed":
        return fits_letter(move[1])
    return move[0] in ("so", "not") and fits_test(move[1])


def check_move(move):
    """Return the move as a tuple, with a tuple within, or raise BadMove."""
    if not fits_move(move):
        raise BadMove()
    if move[0] == "stay":
        return ("stay",)
    return (move[0], tuple(move[1]))


def move_number(move, number):
    """Return the number behind the move, or None if the move bars the number."""
    if move[0] == "stay":
        return number
    if move[0] == "deed":
        return do_letter(move[1], number)
    if passes(move[1], number) == (move[0] == "so"):
        return number
    return None


class Machine:
    """Stations, starts and arrows, with the rim and the block that they have."""

    def __init__(self, stations, starts, arrows):
        if not is_whole_from(stations, 1, MOST_STATIONS):
            raise BadMachine("stations", -1)
        self.stations = stations
        self.starts = _checked_starts(stations, starts)
        self.arrows = _checked_arrows(stations, arrows)
        self.rim = _rim_of(self.starts, self.arrows)
        self.block = _block_of(self.arrows)
        # The indexes of the unlike arrows that leave each station.
        self.leaving = _leaving(stations, self.arrows)

    def __eq__(self, other):
        return (isinstance(other, Machine) and self.stations == other.stations
                and self.starts == other.starts and self.arrows == other.arrows
                and self.rim == other.rim and self.block == other.block)


def _checked_starts(stations, starts):
    if not is_sequence(starts) or len(starts) > MOST_STARTS:
        raise BadMachine("starts", -1)
    for at, start in enumerate(starts):
        if not _is_start(stations, start):
            raise BadMachine("starts", at)
    return tuple([tuple(start) for start in starts])


def _is_start(stations, start):
    return (is_sequence_of(start, 2) and is_whole_from(start[0], 0, stations - 1)
            and is_whole_from(start[1], -FARTHEST_START, FARTHEST_START))


def _checked_arrows(stations, arrows):
    if not is_sequence(arrows) or len(arrows) > MOST_ARROWS:
        raise BadMachine("arrows", -1)
    for at, arrow in enumerate(arrows):
        if not _is_arrow(stations, arrow):
            raise BadMachine("arrows", at)
    return tuple([(origin, check_move(move), target) for origin, move, target in arrows])


def _is_arrow(stations, arrow):
    return (is_sequence_of(arrow, 3) and is_whole_from(arrow[0], 0, stations - 1)
            and fits_move(arrow[1]) and is_whole_from(arrow[2], 0, stations - 1))


def _letters_and_tests(arrows):
    moves = [arrow[1] for arrow in arrows]
    return [move[1] for move in moves if move[0] != "stay"]


def _rim_of(starts, arrows):
    sizes = [1]
    sizes.extend([abs(start[1]) for start in starts])
    for told in _letters_and_tests(arrows):
        sizes.extend([abs(number) for number in told[1:]])
    return max(sizes)


def _block_of(arrows):
    modulus = 1
    longest = 1
    for told in _letters_and_tests(arrows):
        if told[0] in ("mod", "rest"):
            modulus = lcm(modulus, told[1])
        elif told[0] == "add":
            longest = max(longest, abs(told[1]))
    return modulus * ((longest + modulus - 1) // modulus)


def _leaving(stations, arrows):
    leaving = [[] for _ in range(stations)]
    seen = {}
    for index, arrow in enumerate(arrows):
        if arrow not in seen:
            seen[arrow] = True
            leaving[arrow[0]].append(index)
    return tuple([tuple(indexes) for indexes in leaving])


def room_of(machine, station, number):
    """Return (room, height) of a number beyond the rim, or None in the core."""
    if abs(number) <= machine.rim:
        return None
    side = 1 if number > 0 else -1
    height, rest = divmod(abs(number) - machine.rim - 1, machine.block)
    return ((station, side, rest), height)


def number_of(machine, room, height):
    """Return the number that stands in the room at the height."""
    _, side, rest = room
    return side * (machine.rim + 1 + machine.block * height + rest)
