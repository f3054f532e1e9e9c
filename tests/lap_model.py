"""Plain roads driven lap by lap and pass by pass, to test rounds against."""
from tests.model import Table
from tests.road_model import chance_text, model_drive, model_tree, passing_of


def flat_road(text):
    """The tuple (list of the tuples (travel behind the pass before, greens), travel behind the last one)."""
    passes, ticks = [], 0

    def walk(row):
        nonlocal ticks
        for kind, *told in row:
            if kind == "travel":
                ticks += told[0]
            elif kind == "signal":
                passes.append((ticks, told[1]))
                ticks = 0
            else:
                for _ in range(told[0]):
                    walk(told[1])

    walk(model_tree(text))
    return passes, ticks


def waits_from(cycle, flat, begin, laps):
    """The waits (lap, pass, arrival, passing) in so many laps, and the moment at their end.

    It begins with a start, or with a tuple (pass, moment) of a car that passes there in the lap 0.
    """
    passes, tail = flat
    last, moment = begin if isinstance(begin, tuple) else (-1, begin)
    found = []
    for lap in range(laps):
        for at, (ticks, greens) in enumerate(passes):
            if at > last:
                moment += ticks
                passing = passing_of(cycle, greens, moment)
                if passing > moment:
                    found.append((lap, at, moment, passing))
                moment = passing
        moment += tail
        last = -1
    return found, moment


def is_free(cycle, flat, start):
    """Whether a car never waits: behind as many laps as the cycle has moments all comes again."""
    return not waits_from(cycle, flat, start, cycle)[0]


def rests_in_rows(rests):
    """The longest stretches of ascending rests."""
    rows = []
    for rest in rests:
        if rows and rows[-1][1] + 1 == rest:
            rows[-1] = (rows[-1][0], rest)
        else:
            rows.append((rest, rest))
    return rows


def model_wait_points(cycle, flat):
    return [(at, moment) for at, (_, greens) in enumerate(flat[0]) for moment in range(cycle)
            if passing_of(cycle, greens, moment) == moment and passing_of(cycle, greens, moment - 1) == moment]


def model_ring(cycle, flat, start):
    """What ring returns, from waits in so many laps that each wait point has come twice if it ever does."""
    waits = waits_from(cycle, flat, start, cycle * (len(model_wait_points(cycle, flat)) + 2))[0]
    points = [(at, passing % cycle) for _, at, _, passing in waits]
    for later, point in enumerate(points):
        if point in points[:later]:
            first = points.index(point)
            one, other = waits[first], waits[later]
            return first, points[first:later], other[0] - one[0], other[3] - one[3]
    return None


def lap_table(cycle, text):
    """The table of one lap."""
    tree = model_tree(text)
    return Table([model_drive(cycle, tree, start)[1] for start in range(cycle)])


def table_power(table, times):
    """The table of so many laps, by doubling."""
    found = Table(range(table.cycle))
    while times:
        if times & 1:
            found = Table([table(arrival) for arrival in found.row])
        table = Table([table(arrival) for arrival in table.row])
        times >>= 1
    return found


def chance_round(source, cycle, many, unit=1):
    """The text of a plain road with about so many words and some travel."""
    while True:
        text = chance_text(source, cycle, many, 0, unit)
        if source.randrange(3) == 0:
            text = f"( {text} )2 {chance_text(source, cycle, 1, 0, unit)}"
        if any(word.isdigit() and word != "0" for word in text.split(" ")):
            return text


def moved_signal(text, index, ticks, cycle):
    """The text with the offsets of a signal moved by some ticks."""
    words = text.split(" ")
    at = [place for place, word in enumerate(words) if word.startswith("s:")][index]
    greens = [green.split("+") for green in words[at][2:].split(",")]
    words[at] = "s:" + ",".join(f"{(int(offset) + ticks) % cycle}+{length}" for offset, length in greens)
    return " ".join(words)
