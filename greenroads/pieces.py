"""Pieces of roads: travels, signals, and groups of pieces that are put together."""
from greenroads.passages import travel_of
from greenroads.together import BOTH, SOONER, all_together, repeated, surroundings

TRAVEL = "travel"
SIGNAL = "signal"


class Piece:
    """A travel, whose number is its ticks; a signal, whose number is its index; or a group.

    The kind of a group is the way in which its parts are put together, and its number how many times they stand
    there, one time behind the other.
    """

    def __init__(self, kind, number, parts):
        self.kind = kind
        self.number = number
        self.parts = parts


def weight_of(piece, weigh):
    """The sum of the weights of all travels and signals of a piece, with repeats written out."""
    if piece.kind in (TRAVEL, SIGNAL):
        return weigh(piece)
    return piece.number * sum([weight_of(part, weigh) for part in piece.parts])


def many_leaves(piece):
    """The number of travels and signals of a piece, with repeats written out."""
    return weight_of(piece, lambda leaf: 1)


def passes_of(piece):
    """The list of the indices of the signals of a piece, with repeats written out."""
    if piece.kind == SIGNAL:
        return [piece.number]
    if piece.kind == TRAVEL:
        return []
    return [index for part in piece.parts for index in passes_of(part)] * piece.number


def passes_ahead(piece):
    """The tuple (list of the tuples (index, travel ahead of it) of all passes, travel) of a plain piece."""
    if piece.kind == SIGNAL:
        return [(piece.number, 0)], 0
    if piece.kind == TRAVEL:
        return [], piece.number
    found, ticks = [], 0
    for part in list(piece.parts) * piece.number:
        inner, travel = passes_ahead(part)
        found.extend([(index, ticks + ahead) for index, ahead in inner])
        ticks += travel
    return found, ticks


def way_through(travelled, singles, piece):
    """The passage or course of a piece, told a function that makes those of travels, and the list of the signals'."""
    if piece.kind == SIGNAL:
        return singles[piece.number]
    if piece.kind == TRAVEL:
        return travelled(piece.number)
    if len(piece.parts) == 0:
        return travelled(0)
    parts = [way_through(travelled, singles, part) for part in piece.parts]
    return repeated(all_together(piece.kind, parts), piece.number)


def passage_through(cycle, singles, piece):
    """The passage of a piece, told the list of the passages of the single signals."""
    return way_through(lambda ticks: travel_of(cycle, ticks), singles, piece)


def passages_without(cycle, singles, piece):
    """For each signal of a piece the tuple of its index and the passage of the piece if it is always green."""
    if piece.kind == SIGNAL:
        return [(piece.number, travel_of(cycle, 0))]
    found = []
    around = surroundings(piece.kind, [passage_through(cycle, singles, part) for part in piece.parts])
    for part, (ahead, behind) in zip(piece.parts, around):
        for index, passage in passages_without(cycle, singles, part):
            once = all_together(piece.kind, [*ahead, passage, *behind])
            found.append((index, repeated(once, piece.number)))
    return found


def driven(passes, piece, start):
    """The tuple (list of the signals that are passed, as drive tells them, arrival) of a start.

    A car that comes to the signal with an index at a moment passes at passes(index, moment).
    """
    if piece.kind == TRAVEL:
        return [], start + piece.number
    if piece.kind == SIGNAL:
        passing = passes(piece.number, start)
        return [(piece.number, start, passing)], passing
    if piece.kind in (SOONER, BOTH):
        return driven_roads(piece.kind, [driven(passes, road, start) for road in piece.parts])
    seen, moment = [], start
    for part in list(piece.parts) * piece.number:
        passed, moment = driven(passes, part, moment)
        seen.extend(passed)
    return seen, moment


def driven_roads(kind, drives):
    """What is passed in brackets, and the arrival, told the same of each of their roads."""
    if kind == SOONER:
        return min(drives, key=lambda drive: drive[1])
    return [row for seen, _ in drives for row in seen], max([arrival for _, arrival in drives])
