"""Parts of courses: tuples (until, way) for the starts up to until that are behind those of the part before.

The until of the last part is None. Ways are those of lines.py. All functions take parts that ascend and do not fall.
"""
from greenroads.lines import (
    arrival_by, cut_runs, first_apart, is_passage, lines_by, lines_up_to, runs_of_lines)
from greenroads.runs import behind_runs, both_runs, latest_at, longest_runs, sooner_runs


def part_at(parts, start):
    """The index of the part of a start; start may be None for the very first ones."""
    low, high = 0, len(parts) - 1 if start is not None else 0
    while low < high:
        middle = (low + high) // 2
        if parts[middle][0] < start:
            low = middle + 1
        else:
            high = middle
    return low


def arrival_in(cycle, parts, start):
    """The arrival of a start."""
    return arrival_by(cycle, parts[part_at(parts, start)][1], start)


def stretches_of_parts(parts):
    """The tuples (low, until, way) of parts, low being the first start of the part, None for the first part."""
    lows = [None] + [until + 1 for until, _ in parts[:-1]]
    return [(low, until, way) for low, (until, way) in zip(lows, parts)]


def falls(cycle, parts):
    """Whether the arrivals fall between two of some parts that ascend."""
    behind = [arrival_by(cycle, way, until) for until, way in parts[:-1]]
    ahead = [arrival_by(cycle, way, low) for low, _, way in stretches_of_parts(parts)[1:]]
    return any([late > early for late, early in zip(behind, ahead)])


def agrees_until(cycle, parts, low, way):
    """The last start from low on up to which the parts arrive as a way does, None if all starts do."""
    for until, other in parts[part_at(parts, low):]:
        apart = first_apart(cycle, other, way, low, until)
        if apart is not None:
            return apart - 1
        if until is not None:
            low = until + 1
    return None


def lines_of_cycle(cycle, parts, low):
    """The lines of parts that part one cycle of starts from low on."""
    end = low + cycle - 1
    found = []
    at = part_at(parts, low)
    while low <= end:
        until, way = parts[at]
        high = end if until is None else min(until, end)
        found.extend(lines_by(cycle, way, low, high))
        low = high + 1
        at += 1
    return found


def longest_part(cycle, parts, low):
    """The longest part that the parts from low on can begin with."""
    until, way = parts[part_at(parts, low)]
    early = arrival_in(cycle, parts, low)
    # Where all of a cycle and one start more arrive together, they are not in one passage.
    if arrival_in(cycle, parts, low + cycle) == early:
        return agrees_until(cycle, parts, low, early), early
    if is_passage(way) and (until is None or until >= low + cycle - 1):
        return agrees_until(cycle, parts, low, way), way
    # What is not above the arrival of low a cycle later is in one passage up to the end of the cycle.
    lines = lines_up_to(lines_of_cycle(cycle, parts, low), early + cycle)
    runs = runs_of_lines(cycle, lines)
    return agrees_until(cycle, parts, lines[-1][1] + 1, runs), runs


def fewest_parts(cycle, parts):
    """As few parts as possible with the same arrivals, each one, from the first on, as long as it can be."""
    until, way = parts[0]
    if until is not None:
        until = agrees_until(cycle, parts, until + 1, way)
    found = [(until, way)]
    while found[-1][0] is not None:
        found.append(longest_part(cycle, parts, found[-1][0] + 1))
    return found


def parts_behind(cycle, parts, others):
    """The parts of a course with another one behind it."""
    found = []
    for low, until, way in stretches_of_parts(parts):
        if is_passage(way):
            found.extend(passage_behind(cycle, (low, until, way), others))
        else:
            found.append((until, arrival_in(cycle, others, way)))
    return found


def passage_behind(cycle, stretch, others):
    """The parts of a stretch (low, until, runs) with a course behind it."""
    low, until, runs = stretch
    found = []
    at = part_at(others, None if low is None else arrival_by(cycle, runs, low))
    done = False
    while not done:
        end, way = others[at]
        high = until if end is None else latest_at(cycle, runs, end)
        done = end is None or (until is not None and high >= until)
        high = until if done else high
        found.append((high, way_behind(cycle, (low, high, runs), way)))
        # Where nobody arrives in a part, it is not taken.
        if not done:
            low = high + 1
            at = part_at(others, arrival_by(cycle, runs, low))
    return found


def way_behind(cycle, stretch, way):
    """The way of a stretch (low, high, runs) with another way behind it."""
    low, high, runs = stretch
    if not is_passage(way):
        return way
    return longest_runs(cycle, behind_runs(cycle, cut_runs(cycle, runs, low, high), way))


def shared_stretches(parts, others):
    """The tuples (low, high, way, other way) of the longest stretches that are in one part of both courses."""
    found = []
    low, at, other_at = None, 0, 0
    while at < len(parts):
        until, end = parts[at][0], others[other_at][0]
        high = min([moment for moment in (until, end) if moment is not None], default=None)
        found.append((low, high, parts[at][1], others[other_at][1]))
        at = at + 1 if until == high else at
        other_at = other_at + 1 if end == high else other_at
        low = None if high is None else high + 1
    return found


def parts_sooner(cycle, parts, others):
    """The parts of the lesser arrivals of two courses."""
    found = []
    for low, high, way, other in shared_stretches(parts, others):
        if is_passage(way) and is_passage(other):
            ones, twos = cut_runs(cycle, way, low, high), cut_runs(cycle, other, low, high)
            found.append((high, longest_runs(cycle, sooner_runs(cycle, ones, twos))))
        elif is_passage(way) or is_passage(other):
            runs, moment = (way, other) if is_passage(way) else (other, way)
            found.extend(parts_meeting(cycle, (low, high, runs), moment, runs, moment))
        else:
            found.append((high, min(way, other)))
    return found


def parts_both(cycle, parts, others):
    """The parts of the greater arrivals of two courses."""
    found = []
    for low, high, way, other in shared_stretches(parts, others):
        if is_passage(way) and is_passage(other):
            ones, twos = cut_runs(cycle, way, low, high), cut_runs(cycle, other, low, high)
            found.append((high, longest_runs(cycle, both_runs(cycle, ones, twos))))
        elif is_passage(way) or is_passage(other):
            runs, moment = (way, other) if is_passage(way) else (other, way)
            found.extend(parts_meeting(cycle, (low, high, runs), moment, moment, runs))
        else:
            found.append((high, max(way, other)))
    return found


def parts_meeting(cycle, stretch, moment, way, other):
    """Parts of a stretch (low, high, runs): by a way up to a moment of arrival, by another one behind it."""
    low, high, runs = stretch
    met = latest_at(cycle, runs, moment)
    if low is not None and met < low:
        return [(high, other)]
    if high is not None and met >= high:
        return [(high, way)]
    return [(met, way), (high, other)]
