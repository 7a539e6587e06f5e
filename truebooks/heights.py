"""How high runs of a machine climb: core numbers, and the rooms met at each height."""

from truebooks.basics import bits_of
from truebooks.errors import TooLong
from truebooks.letters import passes
from truebooks.levels import GROUND, Floors, is_jump
from truebooks.numbermachine import move_number, number_of

MOST_ROWS = 2000


class Heights:
    """Rows of rooms by height; from the height again on they come round."""

    def __init__(self, rows, again):
        self.rows = tuple(rows)
        self.again = again

    def __eq__(self, other):
        return isinstance(other, Heights) and self.rows == other.rows and self.again == other.again


class Core:
    """The core numbers that runs meet: for each station a mask with one bit for each.

    Masks let an arrow lead all fresh numbers of a station on at once.
    """

    def __init__(self, machine):
        self.machine = machine
        self.width = 2 * machine.rim + 1
        self.full = (1 << self.width) - 1
        self.met = [0] * machine.stations
        self.fresh = [0] * machine.stations
        self.waiting = []
        self.test_masks = {}

    def put(self, station, number):
        """Let runs meet a core number at a station."""
        self._put_mask(station, 1 << (number + self.machine.rim))

    def _put_mask(self, station, mask):
        new = mask & ~self.met[station]
        if new == 0:
            return
        if self.fresh[station] == 0:
            self.waiting.append(station)
        self.met[station] |= new
        self.fresh[station] |= new

    def spread(self):
        """Follow all arrows from fresh numbers; return the rooms to which they lead."""
        rooms = {}
        while self.waiting:
            station = self.waiting.pop()
            mask = self.fresh[station]
            self.fresh[station] = 0
            for index in self.machine.leaving[station]:
                _, move, target = self.machine.arrows[index]
                if move[0] == "deed" and move[1][0] == "add":
                    for side, rest in self._add(move[1][1], mask, target):
                        rooms[(target, side, rest)] = True
                else:
                    self._put_mask(target, self._moved(move, mask))
        return list(rooms)

    def _add(self, by, mask, target):
        """Add to the numbers of a mask; return (side, rest) of those that leave the core."""
        if by >= 0:
            moved = mask << by
            self._put_mask(target, moved & self.full)
            return [(1, at) for at in bits_of(moved >> self.width)]
        self._put_mask(target, mask >> -by)
        return [(-1, -by - 1 - at) for at in bits_of(mask & ((1 << -by) - 1))]

    def _moved(self, move, mask):
        """Return the mask behind a move that keeps numbers in the core."""
        if move[0] == "so":
            return mask & self._mask_of(move[1])
        if move[0] == "not":
            return mask & ~self._mask_of(move[1])
        if move[0] == "stay":
            return mask
        word = move[1][0]
        if word == "turn":
            bits = f"{mask:b}"
            bits = bits.zfill(self.width)
            return int(bits[::-1], 2)
        if word == "set":
            return 1 << (move[1][1] + self.machine.rim)
        modulus = move[1][1]
        rests = [n for n in range(modulus) if mask & self._mask_of(("rest", modulus, n))]
        return sum([1 << (n + self.machine.rim) for n in rests])

    def _mask_of(self, test):
        if test not in self.test_masks:
            rim = self.machine.rim
            numbers = [n for n in range(-rim, rim + 1) if passes(test, n)]
            self.test_masks[test] = sum([1 << (n + rim) for n in numbers])
        return self.test_masks[test]

    def all_numbers(self):
        """Return for each station the ascending core numbers that runs meet there."""
        rim = self.machine.rim
        return tuple([tuple([at - rim for at in bits_of(mask)]) for mask in self.met])


def explore(machine):
    """Return the Core and the Floors that hold all that runs of the machine meet."""
    core = Core(machine)
    floors = Floors(machine)
    for station, number in machine.starts:
        core.put(station, number)
    told = {}
    while core.waiting:
        for room in core.spread():
            floors.put(room)
        floors.run()
        for room, ground in floors.take_news():
            if (room, ground) not in told:
                told[(room, ground)] = True
                _come_back(machine, core, room, ground)
    return core, floors


def _come_back(machine, core, room, ground):
    """Put into the core what leads there from a room, from height 0 if on the ground."""
    number = number_of(machine, room, 0)
    for index in machine.leaving[room[0]]:
        _, move, target = machine.arrows[index]
        if ground or is_jump(move):
            after = move_number(move, number)
            if after is not None and abs(after) <= machine.rim:
                core.put(target, after)


def rooms_by_height(machine):
    """Return Heights: the rooms that runs meet at each height."""
    _, floors = explore(machine)
    return heights_of(floors)


def heights_of(floors):
    """Return the Heights of explored floors, or raise TooLong."""
    lifts = floors.lifts()
    row = floors.met[GROUND]
    height_of = {}
    while row not in height_of:
        if len(height_of) == MOST_ROWS:
            raise TooLong(MOST_ROWS)
        height_of[row] = len(height_of)
        row = _next_row(row, lifts)
    ascending = sorted([(room, number) for number, room in enumerate(floors.rooms.rooms)])
    rows = [_rooms_of(mask, ascending) for mask in height_of]
    return Heights(rows, height_of[row])


def _next_row(row, lifts):
    following = 0
    for bit, mask in lifts:
        if row & bit:
            following |= mask
    return following


def _rooms_of(mask, ascending):
    """Return the rooms of a mask; ascending has couples of a room and its number."""
    bits = f"{mask:b}"
    bits = bits[::-1]
    return tuple([room for room, number in ascending if bits[number:number + 1] == "1"])


def row_at(heights, height):
    """Return the row of rooms of any height from 0."""
    if height < len(heights.rows):
        return heights.rows[height]
    turn = len(heights.rows) - heights.again
    return heights.rows[heights.again + (height - heights.again) % turn]


def core_numbers(machine):
    """Return for each station the ascending core numbers that runs meet there."""
    core, _ = explore(machine)
    return core.all_numbers()
