"""Starts counted, found and summed up by their durations."""
from greenroads.checks import check_moment, check_number, is_whole
from greenroads.errors import InvalidIndex
from greenroads.passages import check_passage
from greenroads.runs import stretches
from greenroads.signals import green_before


def durations(passage):
    """The tuples (low, high, duration of low, duration of high) that part the starts 0 .. cycle - 1, ascending.

    In each the durations are all the same, or each start has one tick less than the start before it.
    """
    rows = stretches(passage.cycle, passage.runs, passage.runs)
    return [(row[0], row[1], row[2] - row[0], row[3] - row[1]) for row in rows]


def starts_within(passage, most):
    """The ascending rows (first, last) of the starts in 0 .. cycle - 1 with a duration of at most `most`."""
    rows = durations(passage)
    return [(low + max(0, early - most), high) for low, high, early, late in rows if late <= most]


def count_within(passage, most, low, high):
    """The number of starts from low to below high with a duration of at most `most`."""
    check_passage(passage)
    check_number(most)
    check_moment(low)
    check_moment(high)
    if high <= low:
        return 0
    cycle = passage.cycle
    rows = [(first, last - first + 1) for first, last in starts_within(passage, most)]
    return sum([green_before(cycle, row, high) - green_before(cycle, row, low) for row in rows])


def nth_in(rows, index):
    """The start with an index among the starts of ascending rows, which has one."""
    at = 0
    while index > rows[at][1] - rows[at][0]:
        index -= rows[at][1] - rows[at][0] + 1
        at += 1
    return rows[at][0] + index


def nth_within(passage, most, index):
    """The start with an index among the starts from 0 on with a duration of at most `most`, or None."""
    check_passage(passage)
    check_number(most)
    if not is_whole(index) or index < 0:
        raise InvalidIndex("an index is an integer from 0 on")
    rows = starts_within(passage, most)
    many = sum([last - first + 1 for first, last in rows])
    if many == 0:
        return None
    turns, rest = divmod(index, many)
    return nth_in(rows, rest) + turns * passage.cycle


def time_of(row):
    """The sum of the durations of the starts of one row of durations."""
    low, high, early, late = row
    # The durations are an arithmetic series.
    return (high - low + 1) * (early + late) // 2


def cut_before(row, moment):
    """The starts of a row of durations below a moment that is above its first start."""
    low, high, early, late = row
    if high < moment:
        return row
    falls = 0 if early == late else moment - 1 - low
    return low, moment - 1, early, early - falls


def time_before(cycle, rows, moment):
    """The sum of the durations of the starts from 0 to below a moment; below 0 the negative of those from it on."""
    turns, rest = divmod(moment, cycle)
    whole = sum([time_of(row) for row in rows])
    ahead = sum([time_of(cut_before(row, rest)) for row in rows if row[0] < rest])
    # Each turn adds the same durations, as the arrivals move with the starts.
    return turns * whole + ahead


def total_time(passage, low, high):
    """The sum of the durations of all starts from low to below high."""
    check_passage(passage)
    check_moment(low)
    check_moment(high)
    if high <= low:
        return 0
    rows = durations(passage)
    return time_before(passage.cycle, rows, high) - time_before(passage.cycle, rows, low)


def worst_start(passage):
    """The tuple (greatest duration, least start from 0 on with it)."""
    check_passage(passage)
    worst = max(durations(passage), key=lambda row: row[2])
    return worst[2], worst[0]


def best_start(passage):
    """The tuple (least duration, least start from 0 on with it)."""
    check_passage(passage)
    # It is that of last starts, which have the same one in their whole row: all others wait for a last start.
    best = min(durations(passage), key=lambda row: row[2])
    return best[2], best[0]
