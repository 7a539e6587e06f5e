"""The steps between rooms, and which rooms a run meets on one floor after another.

A floor is what runs meet at one height from the moment that they enter it until they
fall below it. What a floor holds hangs only on its door: the room by which a change of
1 enters it. So one floor is kept for each door, and the ground floor for height 0.
"""

from truebooks.basics import bits_of, lowest_bit
from truebooks.numbermachine import move_number, number_of, room_of

GROUND = -1
# How much is looked at before rooms that lead to each other are made one.
FIRST_BUDGET = 20000


def room_arrows(machine, room):
    """Return the ascending couples (change, room) of the steps of a room but its jumps."""
    number = number_of(machine, room, 1)
    steps = {}
    for index in machine.leaving[room[0]]:
        _, move, target = machine.arrows[index]
        after = None if is_jump(move) else move_number(move, number)
        if after is not None:
            other, height = room_of(machine, target, after)
            steps[(height - 1, other)] = True
    return tuple(sorted(steps))


def is_jump(move):
    """Tell whether a move leads into the core from everywhere beyond the rim."""
    return move[0] == "deed" and move[1][0] in ("set", "mod")


def level_rooms(machine, room):
    """Return the ascending rooms to which level ways lead from a room."""
    floors = Floors(machine)
    floors.put(room)
    floors.run()
    return tuple(sorted(floors.rooms_on(GROUND)))


class Rooms:
    """The rooms of a machine as far as they are known, each with a number.

    Rows of rooms are masks with one bit for each number. Rooms that lead to each other
    on one level can be made one: then they have one head, the number of one of them.
    """

    def __init__(self, machine):
        self.machine = machine
        self.numbers = {}
        self.rooms = []
        self.heads = []
        self.steps = []
        # Where the steps of 0, -1 and 1 lead from a number or, if it is a head, from
        # all that have it. levels gets the level ways by higher rooms besides.
        self.levels = []
        self.downs = []
        self.ups = []
        # The numbers of each head that stands for more than one, as lists and as masks.
        self.members = {}
        self.kin = {}
        self.plain = 0

    def numbered(self, room):
        """Return the number of a room."""
        if room not in self.numbers:
            number = len(self.rooms)
            self.numbers[room] = number
            self.rooms.append(room)
            self.heads.append(number)
            self.plain |= 1 << number
            self.steps.append(None)
            self.levels.append(0)
            self.downs.append(0)
            self.ups.append(())
        return self.numbers[room]

    def steps_of(self, number):
        """Return the couples (change, number) of the steps from the room of a number."""
        if self.steps[number] is None:
            arrows = room_arrows(self.machine, self.rooms[number])
            steps = [(change, self.numbered(room)) for change, room in arrows]
            self.steps[number] = steps
            self.ups[number] = [target for change, target in steps if change == 1]
            self.levels[number] = sum([1 << target for change, target in steps if change == 0])
            self.downs[number] = sum([1 << target for change, target in steps if change == -1])
        return self.steps[number]

    def new_levels(self, head, mask):
        """Let level ways lead from a head to the rooms of a mask; return those that are new."""
        new = mask & ~self.levels[head]
        self.levels[head] |= new
        return new

    def members_of(self, head):
        """Return the rooms that a head stands for."""
        return [self.rooms[number] for number in self.members.get(head, [head])]

    def heads_in(self, mask):
        """Return the mask of the heads of the numbers of a mask."""
        heads = mask & self.plain
        rest = mask & ~self.plain
        while rest:
            head = self.heads[lowest_bit(rest)]
            heads |= 1 << head
            rest &= ~self.kin[head]
        return heads

    def make_one(self):
        """Make rooms one that lead to each other on one level."""
        classes = classes_of(self.levels)
        for mask in classes:
            if mask & (mask - 1):
                self._unite(bits_of(mask), mask)

    def _unite(self, numbers, mask):
        head = numbers[0]
        ups = {}
        for number in numbers:
            self.heads[number] = head
            self.levels[head] |= self.levels[number]
            self.downs[head] |= self.downs[number]
            for door in self.ups[number]:
                ups[door] = True
        self.ups[head] = list(ups)
        self.members[head] = numbers
        self.kin[head] = mask
        self.plain &= ~mask


class Floors:
    """The rooms that are met on the ground floor and on all floors above it.

    Rows of rooms are masks of numbers of rooms; doors are numbers of rooms, or GROUND.
    """

    def __init__(self, machine):
        self.rooms = Rooms(machine)
        self.seeds = 0
        self.fresh_seeds = []
        self.looked_at = {}
        self.budget = FIRST_BUDGET
        self._begin_anew()

    def _begin_anew(self):
        self.met = {GROUND: 0}
        self.todo = {GROUND: []}
        self.exits = {}
        self.callers = {}
        self.holders = {}
        self.risen = {}
        self.waiting = []
        self.news = []
        self.work = 0

    def put(self, room):
        """Let runs enter the ground floor by a room."""
        number = self.rooms.numbered(room)
        self.fresh_seeds.append(number)
        self.seeds |= 1 << number
        self._meet(GROUND, 1 << number)

    def run(self):
        """Go on until no floor can hold more."""
        self._look_around()
        while self.waiting:
            if self.work > self.budget:
                self._make_one()
            self._go_on(self.waiting.pop())

    def take_news(self):
        """Return couples (room, is it on the ground) that are new since the last call.

        Couples can be told once more after rooms were made one.
        """
        news = [(room, ground) for head, ground in self.news for room in self.rooms.members_of(head)]
        self.news = []
        return news

    def rooms_on(self, door):
        """Return the rooms that are met on the floor of a door."""
        return [self.rooms.rooms[number] for number in bits_of(self.met[door])]

    def lifts(self):
        """Return couples of a bit for rooms, and of the mask of what they bring one higher."""
        lifts = []
        for head in self.holders:
            row = 0
            for number in self.rooms.ups[head]:
                row |= self.met[self.rooms.heads[number]]
            if row:
                lifts.append((1 << head, row))
        return lifts

    def _look_around(self):
        """Find the steps of rooms to which steps lead from the ground.

        This is ahead of all other work, for then it can be seen which rooms are one.
        """
        waiting = [(number, False) for number in self.fresh_seeds]
        self.fresh_seeds = []
        while waiting:
            number, above = waiting.pop()
            if (number, above) not in self.looked_at:
                self.looked_at[(number, above)] = True
                self.work += 1
                for change, target in self.rooms.steps_of(number):
                    if above or change >= 0:
                        waiting.append((target, change == 1 or (above and change == 0)))

    def _meet(self, door, mask):
        """Let the floor of a door hold the rooms of a mask."""
        new = self.rooms.heads_in(mask & ~self.met[door])
        heads = bits_of(new)
        self.work += 1 + len(heads)
        for head in heads:
            new |= self.rooms.kin.get(head, 0)
            self._begin(door, head)
        self.met[door] |= new
        if heads:
            self.waiting.append(door)
            self.todo[door].extend(heads)

    def _begin(self, door, head):
        """Note that a floor holds a head, so that what is found later comes to it."""
        if head not in self.holders:
            self.rooms.steps_of(head)
            self.holders[head] = []
            self.news.append((head, False))
        if door == GROUND:
            self.news.append((head, True))
        if self.rooms.ups[head]:
            self.holders[head].append(door)

    def _go_on(self, door):
        """Follow the steps from what is new on the floor of a door."""
        heads = self.todo[door]
        self.todo[door] = []
        level = 0
        down = 0
        for head in heads:
            if head not in self.risen:
                self._rise(head)
            level |= self.rooms.levels[head]
            down |= self.rooms.downs[head]
        self._meet(door, level)
        if door != GROUND:
            self._leave(door, down)

    def _rise(self, head):
        self.risen[head] = True
        for number in self.rooms.ups[head]:
            self._enter(head, self.rooms.heads[number])

    def _enter(self, head, door):
        """Let the floor of a door be entered from a head."""
        if door not in self.callers:
            self.met[door] = 0
            self.todo[door] = []
            self.exits[door] = 0
            self.callers[door] = []
        self.callers[door].append(head)
        self._meet(door, 1 << door)
        self._link(head, self.exits[door])

    def _leave(self, door, mask):
        """Let the floor of a door be left for the rooms of a mask, one floor lower."""
        new = mask & ~self.exits[door]
        if new:
            self.exits[door] |= new
            for head in list(self.callers[door]):
                self._link(head, new)

    def _link(self, head, mask):
        """Let level ways by higher floors lead from a head to the rooms of a mask."""
        new = self.rooms.new_levels(head, mask)
        if new:
            for door in list(self.holders[head]):
                self._meet(door, new)

    def _make_one(self):
        """Make rooms one that lead to each other, and begin anew with what is known."""
        self.rooms.make_one()
        self.budget *= 2
        self._begin_anew()
        self._meet(GROUND, self.seeds)


def classes_of(masks):
    """Return the masks of the numbers that lead to each other.

    masks tells for each number where it leads. A depth-first way keeps the parts that
    are not finished, each with the number by which it was entered; a number that leads
    back to an earlier part makes one part of that and of all that follow.
    """
    classes = []
    unseen = (1 << len(masks)) - 1
    while unseen:
        unseen = _walk(lowest_bit(unseen), masks, unseen, classes)
    return classes


def _walk(root, masks, unseen, classes):
    """Append the classes that are met from a root; return what is unseen behind that."""
    way = [root]
    parts = [(root, 1 << root)]
    unfinished = 1 << root
    unseen &= ~unfinished
    while way:
        number = way[-1]
        ahead = masks[number] & unseen
        if ahead:
            target = lowest_bit(ahead)
            way.append(target)
            parts.append((target, 1 << target))
            unfinished |= 1 << target
            unseen &= ~(1 << target)
        else:
            way.pop()
            entry, part = parts.pop()
            back = masks[number] & unfinished & ~part
            while back:
                entry, more = parts.pop()
                part |= more
                back &= ~more
            if entry == number:
                classes.append(part)
                unfinished &= ~part
            else:
                parts.append((entry, part))
    return unseen
