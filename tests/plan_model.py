"""Cars on roads whose signals change, moment by moment, to test plans against."""
from tests.road_model import model_tree


def shows_green(cycle, greens, changes, index, moment):
    """Whether a signal is green at a moment, by the greens of that moment."""
    for begun, changed, signal in changes:
        if changed == index and begun <= moment:
            greens = signal
    return any((moment - offset) % cycle < length for offset, length in greens)


def changed_drive(cycle, row, changes, moment):
    """The tuple (what drive_with tells, arrival) of a car on what model_tree made."""
    seen = []
    for kind, *told in row:
        if kind == "travel":
            moment += told[0]
        elif kind == "signal":
            passing = moment
            while not shows_green(cycle, told[1], changes, told[0], passing):
                passing += 1
            seen.append((told[0], moment, passing))
            moment = passing
        elif kind == "times":
            for _ in range(told[0]):
                more, moment = changed_drive(cycle, told[1], changes, moment)
                seen += more
        else:
            drives = [changed_drive(cycle, road, changes, moment) for road in told[0]]
            arrivals = [arrival for _, arrival in drives]
            if kind == "{":
                more, moment = drives[arrivals.index(min(arrivals))]
                seen += more
            else:
                seen += [passing for more, _ in drives for passing in more]
                moment = max(arrivals)
    return seen, moment


def changed_arrival(cycle, text, changes, start):
    return changed_drive(cycle, model_tree(text), changes, start)[1]


def chance_greens(source, cycle, unit=1):
    """A signal as a tuple of greens."""
    many = source.choice([1, 1, 1, 2, 6])
    return tuple((source.randrange(cycle) * unit, source.choice([1, source.randint(1, cycle), cycle]) * unit)
                 for _ in range(many))


def chance_changes(source, road, many, low=-10, high=40, unit=1):
    """Some changes of a road whose cycle and numbers are multiples of the unit; some of them change nothing."""
    if len(road.signals) == 0:
        return []
    rows = {}
    for _ in range(many):
        moment, index = source.randint(low, high) * unit, source.randrange(len(road.signals))
        signal = chance_greens(source, road.cycle // unit, unit)
        rows[moment, index] = road.signals[index] if source.randrange(5) == 0 else signal
    return [(moment, index, rows[moment, index]) for moment, index in sorted(rows)]


def chance_net_changes(source, roads, many, low=-10, high=40, unit=1):
    """Some changes of a net with these roads."""
    rows = [(moment, street, index, signal) for street, road in enumerate(roads)
            for moment, index, signal in chance_changes(source, road, source.randint(0, 2), low, high, unit)]
    return sorted(source.sample(rows, min(many, len(rows))))


def many_pairs(road, changes):
    return sum(road.passes.count(index) for _, index, _ in changes)
