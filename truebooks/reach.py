"""The numbers that runs of a machine meet, exactly, and runs that show them."""

from heapq import heappop, heappush
from math import lcm

from truebooks.basics import is_sequence_of, is_whole_from
from truebooks.errors import BadLots, TooLong
from truebooks.heights import explore, heights_of
from truebooks.letters import MOST, do_letter, passes
from truebooks.lots import FARTHEST, MOST_MODULUS, Lot, least_by_size, lot_flags, make_lot
from truebooks.numbermachine import move_number, number_of


def reach(machine):
    """Return for each station the lot of exactly the numbers that runs meet there."""
    core, floors = explore(machine)
    heights = heights_of(floors)
    turn = machine.block * (len(heights.rows) - heights.again)
    if turn > MOST_MODULUS:
        raise TooLong(MOST_MODULUS)
    edge = machine.rim + machine.block * heights.again
    if edge > FARTHEST:
        raise TooLong(FARTHEST)
    inside = [list(numbers) for numbers in core.all_numbers()]
    ups = [[] for _ in inside]
    downs = [[] for _ in inside]
    for height, row in enumerate(heights.rows):
        for room in row:
            number = number_of(machine, room, height)
            if height < heights.again:
                inside[room[0]].append(number)
            elif number > 0:
                ups[room[0]].append(number % turn)
            else:
                downs[room[0]].append(number % turn)
    return tuple([make_lot(-edge, edge, inside[station], turn, ups[station], downs[station])
                  for station in range(machine.stations)])


def number_run(machine, station, number):
    """Return a run (start, arrows) that ends with the number at the station, or None."""
    if number not in reach(machine)[station]:
        return None
    # Couples with the nearest numbers are gone on from first. So no couple is gone on from
    # that is farther off than all that some run to the number meets: the search ends.
    origins = {}
    queue = []
    for index, start in enumerate(machine.starts):
        _come_to(start, (None, index), number, origins, queue)
    while (station, number) not in origins:
        nearest = heappop(queue)
        couple = nearest[2]
        for index in machine.leaving[couple[0]]:
            _, move, target = machine.arrows[index]
            after = move_number(move, couple[1])
            if after is not None:
                _come_to((target, after), (couple, index), number, origins, queue)
    return run_to((station, number), origins)


def _come_to(couple, origin, number, origins, queue):
    if couple not in origins:
        # Of couples that are equally near, the one that was found first is next.
        heappush(queue, (abs(couple[1] - number), len(origins), couple))
        origins[couple] = origin


def run_to(couple, origins):
    """Return the run (start, arrows) that led to a couple.

    Origins has by couples (elder couple, arrow), or (None, start) for what a run begins at.
    """
    arrows = []
    before, index = origins[couple]
    while before is not None:
        arrows.append(index)
        before, index = origins[before]
    return (index, tuple(arrows[::-1]))


def shortest_run(machine, is_wanted, most):
    """Return a run with the fewest arrows to a wanted couple, None if it needs more than most.

    is_wanted tells of a station and a number whether that couple is wanted.
    """
    origins = {}
    fresh = []
    for index, start in enumerate(machine.starts):
        if start not in origins:
            origins[start] = (None, index)
            fresh.append(start)
    for length in range(most + 1):
        for station, number in fresh:
            if is_wanted(station, number):
                return run_to((station, number), origins)
        if length < most:
            fresh = _led_on(machine, fresh, origins)
    return None


def _led_on(machine, couples, origins):
    """Return the list of the couples that one arrow more leads to and that have no origin yet."""
    fresh = []
    for couple in couples:
        station, number = couple
        for index in machine.leaving[station]:
            _, move, target = machine.arrows[index]
            after = move_number(move, number)
            if after is not None and (target, after) not in origins:
                origins[(target, after)] = (couple, index)
                fresh.append((target, after))
    return fresh


def run_fault(machine, station, number, run):
    """Return None if a run ends with the number at the station, else the first fault."""
    start, arrows = run
    if not is_whole_from(start, 0, len(machine.starts) - 1):
        return "start"
    place, present = machine.starts[start]
    for index in arrows:
        if not is_whole_from(index, 0, len(machine.arrows) - 1):
            return "arrow"
        origin, move, target = machine.arrows[index]
        if origin != place:
            return "arrow"
        present = move_number(move, present)
        if present is None:
            return "barred"
        place = target
    if place != station:
        return "station"
    return None if present == number else "number"


def keeps_fault(machine, lots):
    """Return None if lots hold all starts and no arrow leads out of them, else a fault."""
    if not is_sequence_of(lots, machine.stations):
        raise BadLots()
    if not all([isinstance(lot, Lot) for lot in lots]):
        raise BadLots()
    for index, start in enumerate(machine.starts):
        if start[1] not in lots[start[0]]:
            return ("start", index, start[1])
    seen = {}
    for index, arrow in enumerate(machine.arrows):
        if arrow not in seen:
            seen[arrow] = True
            number = _led_out(arrow[1], lots[arrow[0]], lots[arrow[2]])
            if number is not None:
                return ("arrow", index, number)
    return None


def _led_out(move, lot, target):
    """Return the least number of a lot by size that the move leads out of target, or None."""
    return least_by_size(_flags_led_out(move, lot, target))


def least_made_outside(move, lot, target):
    """Return the least number by size that the move makes of a lot and target has not, or None."""
    flags = _flags_led_out(move, lot, target)
    middle = len(flags) // 2
    made = [move_number(move, at - middle) for at, told in enumerate(flags) if told]
    return min(made, key=_size_of, default=None)


def _size_of(number):
    """Return what orders numbers by size."""
    return (abs(number), number)


def _flags_led_out(move, lot, target):
    """Return for numbers round zero whether they are in the lot and led out of target."""
    modulus = lcm(lot.modulus, target.modulus, _modulus_of(move))
    # Farther out than this all comes again with the common modulus.
    edge = max([abs(end) for end in (lot.low, lot.high, target.low, target.high)]) + MOST + 1
    edge += modulus
    kept = _kept_flags(move, target, edge)
    return [told and not kept[at] for at, told in enumerate(lot_flags(lot, -edge, edge))]


def _modulus_of(move):
    """Return the modulus by which a move tells numbers apart."""
    if move[0] != "stay" and move[1][0] in ("mod", "rest"):
        return move[1][1]
    return 1


def _kept_flags(move, target, edge):
    """Return for each number from -edge to edge whether it is barred or led into target."""
    if move[0] == "deed":
        return _made_flags(move[1], target, edge)
    flags = lot_flags(target, -edge, edge)
    if move[0] == "stay":
        return flags
    holds = move[0] == "so"
    return [told or passes(move[1], at - edge) != holds for at, told in enumerate(flags)]


def _made_flags(letter, target, edge):
    """Return for each number from -edge to edge whether the letter leads it into target."""
    if letter[0] == "add":
        return lot_flags(target, letter[1] - edge, letter[1] + edge)
    if letter[0] == "turn":
        return lot_flags(target, -edge, edge)[::-1]
    # The others make few numbers.
    few = {number: number in target for number in range(-MOST, MOST + 1)}
    return [few[do_letter(letter, number)] for number in range(-edge, edge + 1)]
