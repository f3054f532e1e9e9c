"""Lines: tuples (low, high, arrival of low, arrival of high) of starts that arrive together or one behind the other.

They tell what a way does to some starts. A way is runs of a passage in their one form, or an integer at which all
arrive.
"""
from greenroads.runs import arrival_at, latest_at, longest_runs, runs_of_parts, runs_within


def is_passage(way):
    """Whether a way is that of a passage, not an integer."""
    return isinstance(way, tuple)


def arrival_by(cycle, way, start):
    """The arrival of a start by a way."""
    return arrival_at(cycle, way, start) if is_passage(way) else way


def lines_by(cycle, way, low, high):
    """The lines of a way that part the starts from low to high, ascending."""
    if not is_passage(way):
        return [(low, high, way, way)]
    found = []
    begin = low
    for first, last, arrival in runs_within(cycle, way, low, high):
        if begin < first:
            found.append((begin, first - 1, arrival, arrival))
        found.append((first, last, arrival, arrival + last - first))
        begin = last + 1
    if begin <= high:
        late = arrival_at(cycle, way, high)
        found.append((begin, high, late, late))
    return found


def ends_in(line, low, high):
    """The arrivals of two starts of a line."""
    begin, _, early, late = line
    return (early, early) if early == late else (early + low - begin, early + high - begin)


def shared_lines(ones, others):
    """The tuples (low, high, arrivals of low and high by one, the same by another) of lines over the same starts."""
    found = []
    at, other_at = 0, 0
    low = ones[0][0]
    while at < len(ones):
        one, other = ones[at], others[other_at]
        high = min(one[1], other[1])
        found.append((low, high, *ends_in(one, low, high), *ends_in(other, low, high)))
        at = at + 1 if one[1] == high else at
        other_at = other_at + 1 if other[1] == high else other_at
        low = high + 1
    return found


def lines_up_to(lines, most):
    """Lines, cut to the starts that arrive at a moment at the latest."""
    found = []
    for low, high, early, late in lines:
        if late <= most:
            found.append((low, high, early, late))
        elif early <= most:
            found.append((low, low + most - early, early, most))
    return found


def runs_of_lines(cycle, lines):
    """The runs of the passage that has these lines, which part a cycle or less."""
    low, high, late = lines[0][0], lines[-1][1], lines[-1][3]
    end = low + cycle - 1
    rest = [(high + 1, end, late, late)] if high < end else []
    return longest_runs(cycle, runs_of_parts(cycle, [*lines, *rest]))


def cut_runs(cycle, runs, low, high):
    """Runs of a passage with the same arrivals from low to high, None for no bound, and few other ones if any."""
    if low is None or high is None or high - low >= cycle - 1:
        return runs
    return runs_of_lines(cycle, lines_by(cycle, runs, low, high))


def lines_of_both(cycle, way, other, low, high):
    """The shared lines of two ways from low to high, which may be None, but not more than one cycle of them."""
    end = low + cycle - 1
    end = end if high is None else min(high, end)
    return shared_lines(lines_by(cycle, way, low, end), lines_by(cycle, other, low, end))


def first_apart(cycle, way, other, low, high):
    """The least start from low to high with different arrivals, or None; high may be None."""
    if way == other:
        return None
    if is_passage(way) and is_passage(other):
        for begin, _, early, late, other_early, other_late in lines_of_both(cycle, way, other, low, high):
            if early != other_early:
                return begin
            if late != other_late:
                return begin + 1
        return None
    if arrival_by(cycle, way, low) != arrival_by(cycle, other, low):
        return low
    # Both stay together as long as the passage stays at the integer.
    runs, moment = (way, other) if is_passage(way) else (other, way)
    behind = latest_at(cycle, runs, moment) + 1
    return behind if high is None or behind <= high else None


def last_apart(cycle, runs, way, high):
    """The greatest start up to high with other arrivals by a way than by runs; there must be some."""
    if not is_passage(way):
        return high if arrival_at(cycle, runs, high) != way else latest_at(cycle, runs, way - 1)
    lines = lines_of_both(cycle, runs, way, high - cycle + 1, high)
    _, end, _, late, _, other_late = [line for line in lines if line[2:4] != line[4:]][-1]
    # In one line both can come together at the last start alone.
    return end if late != other_late else end - 1


def greatest_apart(cycle, way, other, low, high):
    """The tuple (greatest arrival by a way less that by another one, least start with it) from low to high.

    high may be None unless the way is that of a passage and the other one an integer.
    """
    if not is_passage(way):
        # The other one never falls, so the difference never rises.
        return way - arrival_by(cycle, other, low), low
    if not is_passage(other):
        late = arrival_at(cycle, way, high)
        return late - other, max(low, latest_at(cycle, way, late - 1) + 1)
    best = None
    for begin, end, early, late, other_early, other_late in lines_of_both(cycle, way, other, low, high):
        falls = late - other_late <= early - other_early
        found = (early - other_early, begin) if falls else (late - other_late, end)
        if best is None or found[0] > best[0]:
            best = found
    return best
