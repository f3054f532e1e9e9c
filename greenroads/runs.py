"""Runs of passages as plain tuples (first, last, arrival), ascending over one cycle.

The functions from place_of on take runs in their one form, as longest_runs makes them.
"""
from greenroads.checks import is_whole


def is_run(value):
    """Whether any value has the form of one run."""
    if not isinstance(value, tuple) or len(value) != 3:
        return False
    return all([is_whole(part) for part in value]) and value[0] <= value[1]


def are_runs(cycle, value):
    """Whether any value is runs of a passage, which may be shorter than the longest ones."""
    if not isinstance(value, tuple) or len(value) == 0:
        return False
    if not all([is_run(run) for run in value]):
        return False
    return all([goes_on(before, run) for before, run in run_pairs(cycle, value)])


def goes_on(before, run):
    """Whether a run begins behind another one and arrives behind it."""
    return before[1] < run[0] and last_arrival(before) < run[2]


def joins(before, run):
    """Whether two runs are parts of one: the starts and the arrivals follow one another."""
    return before[1] + 1 == run[0] and last_arrival(before) + 1 == run[2]


def last_arrival(run):
    """The arrival of the last start of a run."""
    first, last, arrival = run
    return arrival + last - first


def moved(run, ticks):
    """A run, or any other tuple of moments, moved by some ticks."""
    return tuple([moment + ticks for moment in run])


def ascending(cycle, rows):
    """Tuples of moments, each moved by cycles so that its first moment is in 0 .. cycle - 1, ascending."""
    return sorted([moved(row, -(row[0] // cycle * cycle)) for row in rows])


def run_pairs(cycle, runs):
    """Each run with the one before it, which for the first run is the last one a cycle earlier."""
    earlier = [moved(runs[-1], -cycle), *runs[:-1]]
    return list(zip(earlier, runs))


def longest_runs(cycle, runs):
    """The one form of the runs of a passage, from any runs of it."""
    joined = [runs[0]]
    for first, last, arrival in runs[1:]:
        if joins(joined[-1], (first, last, arrival)):
            begin, _, early = joined[-1]
            joined[-1] = (begin, last, early)
        else:
            joined.append((first, last, arrival))
    first, last, arrival = joined[0]
    if last - first == cycle - 1:
        return ((0, cycle - 1, arrival - first),)
    begin, end, early = joined[-1]
    if joins((begin, end, early), moved(joined[0], cycle)):
        joined = [(begin, last + cycle, early), *joined[1:-1]]
    return tuple(ascending(cycle, joined))


def place_of(cycle, runs, start):
    """The tuple (index of the run, ticks): with this run, moved by these ticks, a start arrives."""
    ticks = -((runs[-1][1] - start) // cycle * cycle)
    low, high = 0, len(runs) - 1
    while low < high:
        middle = (low + high) // 2
        if runs[middle][1] + ticks < start:
            low = middle + 1
        else:
            high = middle
    return low, ticks


def arrival_by_run(run, start):
    """The arrival of a start that arrives with a run."""
    first, _, arrival = run
    return arrival + max(0, start - first)


def arrival_at(cycle, runs, start):
    """The arrival of a start."""
    at, ticks = place_of(cycle, runs, start)
    return arrival_by_run(moved(runs[at], ticks), start)


def arrivals_at(cycle, runs, starts):
    """The arrivals of ascending starts in 0 .. cycle - 1, found in one walk along the runs."""
    walked = [moved(runs[-1], -cycle), *runs, moved(runs[0], cycle)]
    arrivals = []
    at = 0
    for start in starts:
        while walked[at][1] < start:
            at += 1
        arrivals.append(arrival_by_run(walked[at], start))
    return arrivals


def runs_within(cycle, runs, low, high):
    """The runs that have starts from low to high, moved there and cut to them, ascending."""
    found = []
    at, ticks = place_of(cycle, runs, low)
    while low <= high and runs[at][0] + ticks <= high:
        first, last, arrival = moved(runs[at], ticks)
        begin = max(first, low)
        found.append((begin, min(last, high), arrival + begin - first))
        at += 1
        if at == len(runs):
            at, ticks = 0, ticks + cycle
    return found


def latest_at(cycle, runs, moment):
    """The greatest start that arrives at a moment at the latest."""
    ticks = (moment - runs[0][2]) // cycle * cycle
    low, high = 0, len(runs) - 1
    while low < high:
        middle = (low + high + 1) // 2
        if runs[middle][2] + ticks <= moment:
            low = middle
        else:
            high = middle - 1
    first, last, arrival = moved(runs[low], ticks)
    return min(last, first + moment - arrival)


def behind_runs(cycle, runs, others):
    """Runs of the passage that goes through runs and then through others."""
    found = []
    for run, after in zip(runs, [*runs[1:], moved(runs[0], cycle)]):
        first, last, arrival = run
        end = last_arrival(run)
        # The arrivals follow one another up to end: there a start is a last one if its arrival is one of others.
        for low, high, late in runs_within(cycle, others, arrival, end - 1):
            found.append((low - arrival + first, high - arrival + first, late))
        late = arrival_at(cycle, others, end)
        if late < arrival_at(cycle, others, after[2]):
            found.append((last, last, late))
    return tuple(found)


def latest_runs(cycle, runs):
    """Runs of the passage of the latest starts."""
    found = []
    for before, (first, last, arrival) in run_pairs(cycle, runs):
        found.append((arrival - 1, arrival - 1, before[1]))
        if first < last:
            found.append((arrival, arrival + last - first - 1, first))
    return tuple(found)


def stretches(cycle, runs, others):
    """The tuples (low, high, arrivals of low and high with runs, the same with others) that part 0 .. cycle - 1.

    In each stretch the arrivals with each passage are all the same or follow one another, and none overtakes.
    """
    edges = [edge % cycle for run in [*runs, *others] for edge in (run[0], run[1] + 1)]
    lows = sorted(set([0, *edges]))
    highs = [low - 1 for low in lows[1:]] + [cycle - 1]
    rows = list(zip(lows, highs, arrivals_at(cycle, runs, lows), arrivals_at(cycle, runs, highs),
                    arrivals_at(cycle, others, lows), arrivals_at(cycle, others, highs)))
    return [stretch for row in rows for stretch in parted(row)]


def parted(stretch):
    """A stretch in two where one passage overtakes the other one, otherwise alone."""
    low, high, early, late, other_early, other_late = stretch
    if (early <= other_early and late <= other_late) or (early >= other_early and late >= other_late):
        return [stretch]
    # The sooner one rises until it meets the other one, which stays at one arrival.
    met = max(early, other_early)
    cut = low + met - min(early, other_early)
    behind = met + 1 if early < late else met
    other_behind = met + 1 if other_early < other_late else met
    return [(low, cut, early, met, other_early, met), (cut + 1, high, behind, late, other_behind, other_late)]


def runs_of_parts(cycle, parts):
    """Runs of the passage with these parts (low, high, arrival of low, arrival of high) of 0 .. cycle - 1.

    In each part the arrivals are all the same or follow one another.
    """
    found = []
    reaches = [part[2] for part in parts[1:]] + [parts[0][2] + cycle]
    for (low, high, early, late), reach in zip(parts, reaches):
        first = low if early < late else high
        last = high if late < reach else high - 1
        if first <= last:
            found.append((first, last, early))
    return tuple(found)


def sooner_runs(cycle, runs, others):
    """Runs of the passage with the lesser arrivals."""
    rows = stretches(cycle, runs, others)
    return runs_of_parts(cycle, [(row[0], row[1], min(row[2], row[4]), min(row[3], row[5])) for row in rows])


def both_runs(cycle, runs, others):
    """Runs of the passage with the greater arrivals."""
    rows = stretches(cycle, runs, others)
    return runs_of_parts(cycle, [(row[0], row[1], max(row[2], row[4]), max(row[3], row[5])) for row in rows])
