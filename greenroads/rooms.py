"""Rooms: roads whose signals' plans are changed, with calls that can be undone."""
from greenroads.changed import greens_at, plans_of
from greenroads.checks import check_moment, check_number, check_number_in
from greenroads.errors import InvalidIndex, InvalidMoment, InvalidStep, Nothing, TooLarge
from greenroads.plans import MOST_CHANGES, arrival_with, course_with
from greenroads.roads import check_index, check_road
from greenroads.signals import check_signal

MOST_TICKS = 10 ** 30
# The calls of which a preview may be made, with the number of their arguments.
STEPS = {"plan": 3, "shift": 3, "drop": 2}
CLOCK_STEPS = {"plan": 3, "shift": 3, "drop": 2, "advance": 1}


class Room:
    """A road with changes of its signals' plans."""

    def __init__(self, road):
        check_road(road)
        self.road = road
        self.rows = []
        self.calls = []

    @property
    def changes(self):
        """The list of the changes (moment, index, signal)."""
        return list(self.rows)

    def course(self):
        """The course of the arrivals with the changes."""
        return course_with(self.road, self.rows)

    def signal_at(self, index, moment):
        """The greens of a signal at a moment."""
        check_index(self.road, index)
        check_moment(moment)
        return signal_of(self, index, moment)

    def arrival(self, start):
        """The arrival of a start with the changes."""
        check_moment(start)
        return arrival_with(self.road, self.rows, start)

    def plan(self, index, signal, moment):
        """Adds a change, or takes it in place of that of the same moment and index; returns the number of changes."""
        check_plan(self, index, signal)
        check_moment(moment)
        return planned(self, index, signal, moment)

    def shift(self, index, ticks, moment):
        """Adds the change that moves all greens of a signal by some ticks from a moment on; returns the new signal."""
        check_shift(self, index, ticks)
        check_moment(moment)
        return shifted(self, index, ticks, moment)

    def drop(self, index, moment):
        """Takes the change with a moment and index away and returns its signal."""
        check_index(self.road, index)
        check_moment(moment)
        return dropped(self, index, moment)

    def undo(self):
        """Undoes the last call that changed the room and is not undone."""
        if len(self.calls) == 0:
            raise Nothing("there is no call to undo")
        _, self.rows = self.calls.pop()

    def log(self):
        """The list of the names of the calls that are not undone."""
        return [name for name, _ in self.calls]

    def preview(self, *steps):
        """The list of what calls would return, made one after another; nothing changes."""
        check_steps(dict(STEPS), steps)
        trial = Room(self.road)
        trial.rows = self.rows
        return [returned(trial, step) for step in steps]

    def __len__(self):
        return len(self.rows)

    def __eq__(self, other):
        if not isinstance(other, Room) or isinstance(other, ClockRoom):
            return False
        return self.road == other.road and self.rows == other.rows


class ClockRoom(Room):
    """A room with a clock: what is ahead of it does not change any more."""

    def __init__(self, road, moment):
        super().__init__(road)
        check_moment(moment)
        self.now = moment

    def plan(self, index, signal, moment):
        """As in a Room, but not for moments before now."""
        check_plan(self, index, signal)
        check_from_now(self, moment)
        return planned(self, index, signal, moment)

    def shift(self, index, ticks, moment):
        """As in a Room, but not for moments before now."""
        check_shift(self, index, ticks)
        check_from_now(self, moment)
        return shifted(self, index, ticks, moment)

    def drop(self, index, moment):
        """As in a Room, but not for moments before now."""
        check_index(self.road, index)
        check_from_now(self, moment)
        return dropped(self, index, moment)

    def advance(self, ticks):
        """Lets the clock go on by some ticks; returns the new moment."""
        check_number_in(ticks, 1, MOST_TICKS)
        self.calls.append(("advance", self.now))
        self.now = self.now + ticks
        return self.now

    def undo(self):
        """Undoes the last call that changed the room or the clock and is not undone."""
        if len(self.calls) > 0 and self.calls[-1][0] == "advance":
            _, self.now = self.calls.pop()
        else:
            super().undo()

    def preview(self, *steps):
        """The list of what calls would return, made one after another; nothing changes."""
        check_steps(dict(CLOCK_STEPS), steps)
        trial = ClockRoom(self.road, self.now)
        trial.rows = self.rows
        return [returned(trial, step) for step in steps]

    def __eq__(self, other):
        if not isinstance(other, ClockRoom):
            return False
        return self.road == other.road and self.rows == other.rows and self.now == other.now


def check_plan(room, index, signal):
    """InvalidIndex and InvalidSignal unless the values are the index of a signal of the road and a signal."""
    check_index(room.road, index)
    check_signal(room.road.cycle, signal)


def check_shift(room, index, ticks):
    """InvalidIndex and InvalidNumber unless the values are the index of a signal of the road and an integer."""
    check_index(room.road, index)
    check_number(ticks)


def check_from_now(room, moment):
    """InvalidMoment unless the value is a moment that is not before that of the clock of a room."""
    check_moment(moment)
    if moment < room.now:
        raise InvalidMoment("the moment is before now")


def signal_of(room, index, moment):
    """The greens of a signal at a moment."""
    return greens_at(plans_of(room.road, room.rows)[index], moment)


def others_than(room, index, moment):
    """The changes of a room that have not this moment and this index, a new list."""
    return [row for row in room.rows if row[:2] != (moment, index)]


def take(room, name, rows):
    """Takes new changes, which a call with this name made, in place of those of a room."""
    if len(rows) > MOST_CHANGES:
        raise TooLarge(MOST_CHANGES)
    room.calls.append((name, room.rows))
    # The rows before are kept for undo, so the list itself is never changed.
    room.rows = rows


def planned(room, index, signal, moment):
    """Adds a change to a room; returns the number of changes."""
    take(room, "plan", sorted([*others_than(room, index, moment), (moment, index, signal)]))
    return len(room.rows)


def shifted(room, index, ticks, moment):
    """Adds the change of a room that moves the greens of a signal; returns the new signal."""
    cycle = room.road.cycle
    signal = tuple([((offset + ticks) % cycle, length) for offset, length in signal_of(room, index, moment)])
    take(room, "shift", sorted([*others_than(room, index, moment), (moment, index, signal)]))
    return signal


def dropped(room, index, moment):
    """Takes a change of a room away; returns its signal."""
    found = [row[2] for row in room.rows if row[:2] == (moment, index)]
    if len(found) == 0:
        raise InvalidIndex("there is no change with this moment and index")
    take(room, "drop", others_than(room, index, moment))
    return found[0]


def is_step(steps, value):
    """Whether any value is a tuple of the name of a call, of those in steps, and so many arguments."""
    if not isinstance(value, tuple) or len(value) == 0 or not isinstance(value[0], str):
        return False
    return value[0] in steps and len(value) == steps[value[0]] + 1


def check_steps(steps, values):
    """InvalidStep unless all values are steps."""
    if not all([is_step(steps, value) for value in values]):
        raise InvalidStep("a step is a tuple of the name of a call and its arguments")


def returned(room, step):
    """What the call of a step returns."""
    name, arguments = step[0], step[1:]
    if name == "plan":
        return room.plan(*arguments)
    if name == "shift":
        return room.shift(*arguments)
    if name == "drop":
        return room.drop(*arguments)
    return room.advance(*arguments)
