"""Passages: functions from starts to arrivals that do not fall, told by their runs."""
from greenroads.checks import check_cycle, check_moment, check_number
from greenroads.errors import InvalidPassage, InvalidRuns, OtherCycle
from greenroads.runs import (
    are_runs, arrival_at, ascending, behind_runs, both_runs, last_arrival, latest_runs, longest_runs, run_pairs,
    sooner_runs, stretches)
from greenroads.signals import shortest_greens


class Passage:
    """The passage of a cycle with these runs."""

    def __init__(self, cycle, runs):
        check_cycle(cycle)
        if not are_runs(cycle, runs):
            raise InvalidRuns("runs are a tuple of tuples (first, last, arrival), all behind one another")
        self.cycle = cycle
        self.runs = longest_runs(cycle, runs)

    def __call__(self, start):
        """The arrival of a start."""
        check_moment(start)
        return arrival_at(self.cycle, self.runs, start)

    def __add__(self, other):
        """This passage with another one behind it."""
        check_pair(self, other)
        return Passage(self.cycle, behind_runs(self.cycle, self.runs, other.runs))

    def __or__(self, other):
        """The sooner one of two passages: the lesser arrivals."""
        check_pair(self, other)
        return Passage(self.cycle, sooner_runs(self.cycle, self.runs, other.runs))

    def __and__(self, other):
        """Both of two passages: the greater arrivals."""
        check_pair(self, other)
        return Passage(self.cycle, both_runs(self.cycle, self.runs, other.runs))

    def latest(self):
        """The passage from each moment to the latest start that arrives by then."""
        return Passage(self.cycle, latest_runs(self.cycle, self.runs))

    def __eq__(self, other):
        return isinstance(other, Passage) and self.cycle == other.cycle and self.runs == other.runs


def check_passage(passage):
    """InvalidPassage unless the value is a passage."""
    if not isinstance(passage, Passage):
        raise InvalidPassage("this is no passage")


def check_pair(one, other):
    """InvalidPassage unless both values are passages, OtherCycle if their cycles are not equal."""
    check_passage(one)
    check_passage(other)
    if one.cycle != other.cycle:
        raise OtherCycle("the passages have not the same cycle")


def travel_of(cycle, ticks):
    """The passage that takes the same number of ticks from every start."""
    check_cycle(cycle)
    check_number(ticks)
    return Passage(cycle, ((0, cycle - 1, ticks),))


def pass_of(cycle, signal):
    """The passage of a signal."""
    greens = shortest_greens(cycle, signal)
    return Passage(cycle, tuple([(offset, offset + length - 1, offset) for offset, length in greens]))


def platoons(passage):
    """The ascending list of the platoons (first, last, arrival) that begin in 0 .. cycle - 1."""
    check_passage(passage)
    pairs = run_pairs(passage.cycle, passage.runs)
    found = [(before[1] + 1, run[0], run[2]) for before, run in pairs if before[1] + 1 < run[0]]
    return ascending(passage.cycle, found)


def gaps(passage):
    """The ascending list of the gaps (first, last) that begin in 0 .. cycle - 1."""
    check_passage(passage)
    pairs = run_pairs(passage.cycle, passage.runs)
    found = [(last_arrival(before) + 1, run[2] - 1) for before, run in pairs if last_arrival(before) + 1 < run[2]]
    return ascending(passage.cycle, found)


def first_difference(one, other):
    """The least start from 0 on with different arrivals, or None."""
    check_pair(one, other)
    for low, _, early, late, other_early, other_late in stretches(one.cycle, one.runs, other.runs):
        if early != other_early:
            return low
        if late != other_late:
            # The arrivals of low are the same, and only one of the passages rises behind it.
            return low + 1
    return None


def first_later(one, other):
    """The least start from 0 on that arrives later with one than with other, or None."""
    check_pair(one, other)
    for low, _, early, late, other_early, other_late in stretches(one.cycle, one.runs, other.runs):
        if early > other_early:
            return low
        if late > other_late:
            return low + 1
    return None


def greatest_difference(one, other):
    """The tuple (greatest arrival with one less the arrival with other, least start from 0 on with it)."""
    # Where the difference rises in a stretch, it is still greater at the start behind it.
    rows = stretches(one.cycle, one.runs, other.runs)
    low, _, early, _, other_early, _ = max(rows, key=lambda row: row[2] - row[4])
    return early - other_early, low
