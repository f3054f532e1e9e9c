"""Courses start by start, told by their parts, to test courses against."""
from greenroads.courses import Course
from greenroads.passages import Passage
from tests.model import chance_table, passage_of

# All untils of the small courses lie far inside, and so do the breaks of what is put together from two of them.
LOW, HIGH = -150, 170


def part_value(what, start):
    return what if isinstance(what, int) else what(start)


def value_of(parts, start):
    """The arrival of a start by the words of point 13."""
    for until, what in parts:
        if until is None or start <= until:
            return part_value(what, start)


def lifted(what, cycle, ticks):
    """A part that arrives some ticks later."""
    return what + ticks if isinstance(what, int) else what + Passage(cycle, ((0, cycle - 1, ticks),))


def chance_parts(source, cycle, untils):
    """Parts with these untils, some of them just not falling."""
    parts = []
    for until in [*untils, None]:
        if source.randrange(3) == 0:
            what = source.randint(-2 * cycle, 4 * cycle)
        else:
            what = passage_of(chance_table(source, cycle, source.choice([0, 100, 300, 600, 900, 1000])))
        if parts:
            before, old = parts[-1]
            need = part_value(old, before) - part_value(what, before + 1)
            what = lifted(what, cycle, need + source.choice([0, 0, 1, 3])) if need > 0 else what
        parts.append((until, what))
    return tuple(parts)


def chance_untils(source, low=-15, high=25):
    return sorted(source.sample(range(low, high), source.randint(0, 5)))


def in_one_passage(arrivals, cycle):
    """Whether some passage has these arrivals of starts one behind the other."""
    return all(arrivals[one] - (one - other + cycle - 1) // cycle * cycle <= arrivals[other]
               and arrivals[other] + (one - other) // cycle * cycle <= arrivals[one]
               for one in range(len(arrivals)) for other in range(len(arrivals)))


def joins_passage(arrivals, cycle):
    """The same if it is so without the last one."""
    end = len(arrivals) - 1
    return all(arrivals[end] - (end - start + cycle - 1) // cycle * cycle <= arrivals[start]
               and arrivals[start] + (end - start) // cycle * cycle <= arrivals[end] for start in range(end))


def model_breaks(call, cycle, low=LOW, high=HIGH):
    """The breaks: each part, from the first one on, is as long as it can be."""
    found, begin = [], low
    while True:
        arrivals = [call(begin)]
        last = begin
        while last < high and joins_passage([*arrivals, call(last + 1)], cycle):
            last += 1
            arrivals.append(call(last))
        stays = begin
        while stays < high and call(stays + 1) == call(begin):
            stays += 1
        if max(last, stays) == high:
            return found
        found.append(max(last, stays))
        begin = found[-1] + 1


def drawn_out_course(parts, cycle, times):
    """The course of parts of which each start is drawn out to many, the last of which is a multiple of times."""
    rows = []
    for until, what in parts:
        if isinstance(what, int):
            great = what * times
        else:
            starts = [start for first, last, _ in what.runs for start in range(first, last + 1)]
            great = Passage(cycle * times, tuple((start * times, start * times, what(start) * times) for start in starts))
        rows.append((None if until is None else until * times, great))
    return Course(cycle * times, tuple(rows))


def drawn_out_start(start, times):
    """The first of the starts from 0 on to which a start from 0 on is drawn out."""
    return max(0, (start - 1) * times + 1)
