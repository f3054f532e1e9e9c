"""The console: commands about a road whose signals' plans are changed."""
from greenroads.commands import read_command
from greenroads.errors import InvalidCommand
from greenroads.passages import gaps, platoons
from greenroads.plans import drive_with, first_touched
from greenroads.roads import Road
from greenroads.rooms import Room
from greenroads.rounds import after_laps, free_starts, pace
from greenroads.starts import count_within, worst_start
from greenroads.windows import road_of


def text_of_numbers(numbers):
    """Numbers with spaces between."""
    return " ".join([str(number) for number in numbers])


def text_of_rows(rows):
    """Texts joined by semicolons, or - without any."""
    return ";".join(rows) if len(rows) > 0 else "-"


def text_of_tuples(rows):
    """Tuples of numbers joined by semicolons, or - without any."""
    return text_of_rows([text_of_numbers(row) for row in rows])


def text_of_signal(signal):
    """The greens of a signal as they are written."""
    return ",".join([f"{offset}+{length}" for offset, length in signal])


def say_undo(room):
    """Undoes the last call."""
    room.undo()
    return "ok"


def say_plan(room, index, signal, moment):
    """The number of changes with a new one."""
    return str(room.plan(index, signal, moment))


def say_shift(room, index, ticks, moment):
    """The greens that are moved."""
    return text_of_signal(room.shift(index, ticks, moment))


def say_drop(room, index, moment):
    """The greens of the change that is taken away."""
    return text_of_signal(room.drop(index, moment))


def say_at(room, start):
    """The arrival with the changes."""
    return str(room.arrival(start))


def say_drive(room, start):
    """The signals that are passed with the changes."""
    return text_of_tuples(drive_with(room.road, room.changes, start))


def say_touched(room):
    """The first start that the changes touch."""
    found = first_touched(room.road, room.changes)
    return "-" if found is None else str(found)


def say_changes(room):
    """The changes."""
    return text_of_rows([f"{moment} {index} {text_of_signal(signal)}" for moment, index, signal in room.changes])


def say_runs(room):
    """The runs of the road without changes."""
    return text_of_tuples(room.road.passage().runs)


def say_platoons(room):
    """The platoons of the road without changes."""
    return text_of_tuples(platoons(room.road.passage()))


def say_gaps(room):
    """The gaps of the road without changes."""
    return text_of_tuples(gaps(room.road.passage()))


def say_windows(room):
    """The road of the fewest windows of the road without changes."""
    text = road_of(room.road.passage()).text
    return "-" if text == "" else text


def say_within(room, most):
    """How many starts of a cycle take at most so long without changes."""
    return str(count_within(room.road.passage(), most, 0, room.road.cycle))


def say_worst(room):
    """The greatest duration without changes and its least start."""
    return text_of_numbers(worst_start(room.road.passage()))


def say_laps(room, start, laps):
    """The moment behind so many laps without changes."""
    return str(after_laps(room.road, start, laps))


def say_free(room):
    """The divisor and the stretches of the rests of free starts."""
    divisor, stretches = free_starts(room.road)
    return ";".join([str(divisor), *[text_of_numbers(row) for row in stretches]])


def say_pace(room):
    """The time and the laps of the pace."""
    return text_of_numbers(pace(room.road))


ACTIONS = {
    "undo": say_undo, "plan": say_plan, "shift": say_shift, "drop": say_drop, "at": say_at, "drive": say_drive,
    "touched": say_touched, "changes": say_changes, "runs": say_runs, "platoons": say_platoons, "gaps": say_gaps,
    "windows": say_windows, "within": say_within, "worst": say_worst, "laps": say_laps, "free": say_free,
    "pace": say_pace}


class Console:
    """A console with a room for one road at a time, at first for none."""

    def __init__(self):
        self.room = None

    def execute(self, command):
        """What a command returns, as text."""
        name, values = read_command(command)
        if name == "road":
            cycle, text = values
            self.room = Room(Road(cycle, text))
            return "ok"
        if self.room is None:
            raise InvalidCommand("there is no room yet")
        action = ACTIONS[name]
        return action(self.room, *values)
