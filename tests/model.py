"""The definitions of the document taken at their word, moment by moment, to test the package against."""
from itertools import combinations_with_replacement

from greenroads.passages import Passage


class Table:
    """A passage as a plain table of the arrivals of the starts 0 .. cycle - 1."""

    def __init__(self, row):
        self.row = tuple(row)
        self.cycle = len(self.row)

    def __call__(self, start):
        turns, rest = divmod(start, self.cycle)
        return self.row[rest] + turns * self.cycle

    def reach(self):
        """A number of ticks that no duration exceeds, in either direction."""
        return max(abs(arrival - start) for start, arrival in enumerate(self.row)) + self.cycle


def all_tables(cycle, earliest=(0,)):
    """The tables of all passages of a cycle with these arrivals of start 0."""
    for begin in earliest:
        for rest in combinations_with_replacement(range(begin, begin + cycle + 1), cycle - 1):
            yield Table((begin,) + rest)


def chance_table(source, cycle, steps):
    """A table of which about so many starts in 1000 rise."""
    begin = source.randint(-3 * cycle, 3 * cycle)
    row = [begin]
    while len(row) < cycle:
        rise = source.choice([1, 1, 1, 2, 5]) if source.randint(0, 999) < steps else 0
        row.append(min(row[-1] + rise, begin + cycle))
    turn = source.randrange(cycle)
    table = Table(row)
    return Table([table(start) for start in range(turn, turn + cycle)])


def passage_of(table):
    """The passage of a table, made with runs of one last start each."""
    lasts = [start for start in range(table.cycle) if table(start + 1) > table(start)]
    return Passage(table.cycle, tuple((start, start, table(start)) for start in lasts))


def table_of(passage):
    """The table of a passage, start by start."""
    return Table([passage(start) for start in range(passage.cycle)])


def rows_in(moments, follows):
    """The longest rows of ascending moments each of which follows the one before it."""
    rows = []
    for moment in moments:
        if rows and follows(rows[-1][-1], moment):
            rows[-1].append(moment)
        else:
            rows.append([moment])
    return rows


def begin_at_home(rows, cycle):
    """The rows that begin in 0 .. cycle - 1."""
    return [row for row in rows if 0 <= row[0] < cycle]


def model_runs(table):
    cycle = table.cycle
    if all(table(start + 1) == table(start) + 1 for start in range(cycle)):
        return ((0, cycle - 1, table(0)),)
    lasts = [start for start in range(-2 * cycle, 4 * cycle) if table(start + 1) > table(start)]
    rows = rows_in(lasts, lambda one, other: other == one + 1 and table(other) == table(one) + 1)
    return tuple((row[0], row[-1], table(row[0])) for row in begin_at_home(rows, cycle))


def model_platoons(table):
    starts = range(-2 * table.cycle, 4 * table.cycle)
    rows = rows_in(starts, lambda one, other: table(one) == table(other))
    return [(row[0], row[-1], table(row[0])) for row in begin_at_home(rows, table.cycle) if len(row) > 1]


def model_gaps(table):
    cycle, reach = table.cycle, table.reach()
    arrivals = {table(start) for start in range(-3 * cycle - reach, 5 * cycle + reach)}
    empty = [moment for moment in range(-2 * cycle, 4 * cycle) if moment not in arrivals]
    rows = rows_in(empty, lambda one, other: other == one + 1)
    return [(row[0], row[-1]) for row in begin_at_home(rows, cycle)]


def model_latest(table):
    row = []
    start = -table.reach() - 1
    for moment in range(table.cycle):
        while table(start + 1) <= moment:
            start += 1
        row.append(start)
    return Table(row)


def model_first(one, other, wanted):
    """The least start from 0 on whose arrivals with both are as wanted, or None."""
    for start in range(one.cycle):
        if wanted(one(start), other(start)):
            return start
    return None


def is_one_form(cycle, runs):
    """Whether runs have the one form of the document, which needs no walk through the cycle."""
    if runs[0][1] - runs[0][0] == cycle - 1:
        return len(runs) == 1 and runs[0][0] == 0
    moved = [(first + cycle, last + cycle, arrival + cycle) for first, last, arrival in runs]
    for one, other in zip(runs, list(runs[1:]) + moved[:1]):
        end = one[2] + one[1] - one[0]
        if not (0 <= one[0] < cycle and one[0] <= one[1] < other[0] and end < other[2]):
            return False
        if one[1] + 1 == other[0] and end + 1 == other[2]:
            return False
    return isinstance(runs, tuple) and all(isinstance(run, tuple) for run in runs)


def great_passage(source, cycle, many):
    """A passage of a great cycle with about so many runs, begun in any cycle."""
    cuts = sorted({source.randrange(cycle) for _ in range(2 * many)})
    arrival = source.randint(-3 * cycle, 3 * cycle)
    end = arrival + cycle
    runs = []
    for first, last in zip(cuts[::2], cuts[1::2]):
        if arrival + last - first >= end:
            break
        runs.append((first, last, arrival))
        arrival += last - first + source.choice([1, 1, source.randint(1, cycle // many)])
    turn = source.randint(-2, 2) * cycle
    return Passage(cycle, tuple((first + turn, last + turn, late + turn) for first, last, late in runs))


def near_edges(passage):
    """The starts at which the runs of a passage begin and end, and those beside them."""
    return [edge + beside for first, last, _ in passage.runs for edge in (first, last) for beside in (-1, 0, 1)]


def drawn_out(passage, times):
    """A passage of which each start is drawn out to many: they follow one another, or arrive with the first one."""
    runs = [(first * times, last * times + times - 1, arrival * times) for first, last, arrival in passage.runs]
    return Passage(passage.cycle * times, tuple(runs))
