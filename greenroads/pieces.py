"""Pieces of roads: travels, signals, and groups of pieces that are put together."""
from greenroads.passages import travel_of
from greenroads.signals import next_green
from greenroads.together import BOTH, SOONER, all_together, repeated, surroundings

TRAVEL = "travel"
SIGNAL = "signal"


class Piece:
    """A travel, whose number is its ticks; a signal, whose number is its index; or a group.

    The kind of a group is the way in which its parts are put together, and its number how many times they stand
    there, one time behind the other.
    """

    def __init__(self, kind, number, parts):
        self.kind = kind
        self.number = number
        self.parts = parts


def weight_of(piece, weigh):
    """The sum of the weights of all travels and signals of a piece, with repeats written out."""
    if piece.kind in (TRAVEL, SIGNAL):
        return weigh(piece)
    return piece.number * sum([weight_of(part, weigh) for part in piece.parts])


def many_leaves(piece):
    """The number of travels and signals of a piece, with repeats written out."""
    return weight_of(piece, lambda leaf: 1)


def passes_of(piece):
    """The list of the indices of the signals of a piece, with repeats written out."""
    if piece.kind == SIGNAL:
        return [piece.number]
    if piece.kind == TRAVEL:
        return []
    return [index for part in piece.parts for index in passes_of(part)] * piece.number


def passage_through(cycle, singles, piece):
    """The passage of a piece, told the list of the passages of the single signals."""
    if piece.kind == SIGNAL:
        return singles[piece.number]
    if piece.kind == TRAVEL:
        return travel_of(cycle, piece.number)
    if len(piece.parts) == 0:
        return travel_of(cycle, 0)
    return repeated(all_together(piece.kind, passages_through(cycle, singles, piece.parts)), piece.number)


def passages_through(cycle, singles, pieces):
    """The list of the passages of pieces."""
    return [passage_through(cycle, singles, piece) for piece in pieces]


def passages_without(cycle, singles, piece):
    """For each signal of a piece the tuple of its index and the passage of the piece if it is always green."""
    if piece.kind == SIGNAL:
        return [(piece.number, travel_of(cycle, 0))]
    found = []
    around = surroundings(piece.kind, passages_through(cycle, singles, piece.parts))
    for part, (ahead, behind) in zip(piece.parts, around):
        for index, passage in passages_without(cycle, singles, part):
            once = all_together(piece.kind, [*ahead, passage, *behind])
            found.append((index, repeated(once, piece.number)))
    return found


def driven(cycle, signals, piece, start):
    """The tuple (list of the signals that are passed, as drive tells them, arrival) of a start."""
    if piece.kind == TRAVEL:
        return [], start + piece.number
    if piece.kind == SIGNAL:
        passing = next_green(cycle, signals[piece.number], start)
        return [(piece.number, start, passing)], passing
    if piece.kind in (SOONER, BOTH):
        return driven_roads(piece.kind, [driven(cycle, signals, road, start) for road in piece.parts])
    seen, moment = [], start
    for part in list(piece.parts) * piece.number:
        passed, moment = driven(cycle, signals, part, moment)
        seen.extend(passed)
    return seen, moment


def driven_roads(kind, drives):
    """What is passed in brackets, and the arrival, told the same of each of their roads."""
    if kind == SOONER:
        return min(drives, key=lambda drive: drive[1])
    return [row for seen, _ in drives for row in seen], max([arrival for _, arrival in drives])
