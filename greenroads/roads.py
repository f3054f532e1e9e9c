"""Roads: written as words, driven by cars, with passages from starts to arrivals."""
from greenroads.checks import check_cycle, check_moment, is_whole
from greenroads.errors import InvalidIndex, InvalidRoad, OtherCycle, TooLarge
from greenroads.passages import pass_of
from greenroads.pieces import (
    SIGNAL, TRAVEL, driven, many_leaves, passage_through, passages_without, passes_of, weight_of)
from greenroads.signals import next_green
from greenroads.texts import read_text

MOST_LEAVES = 2000
MOST_GREENS = 200


class Road:
    """The road of a cycle that a text writes."""

    def __init__(self, cycle, text):
        check_cycle(cycle)
        piece, signals = read_text(cycle, text)
        check_size(piece, signals)
        self.cycle = cycle
        self.text = text
        self.signals = signals
        self.passes = tuple(passes_of(piece))
        self.is_plain = "{" not in text and "<" not in text
        self.travel = travel_in(piece) if self.is_plain else None
        self.piece = piece
        # Each call asks for the passage, and it never changes.
        self.whole = passage_through(cycle, passes_through(self), piece)

    def passage(self):
        """The passage of the road."""
        return self.whole

    def __call__(self, start):
        """The arrival of a start."""
        return self.whole(start)

    def __eq__(self, other):
        return isinstance(other, Road) and self.cycle == other.cycle and self.text == other.text


def check_size(piece, signals):
    """TooLarge if a road has too many travels and signals, or too many greens, with repeats written out."""
    if many_leaves(piece) > MOST_LEAVES:
        raise TooLarge(MOST_LEAVES)
    if weight_of(piece, lambda leaf: len(signals[leaf.number]) if leaf.kind == SIGNAL else 0) > MOST_GREENS:
        raise TooLarge(MOST_GREENS)


def travel_in(piece):
    """The sum of all travels of a piece, with repeats written out."""
    return weight_of(piece, lambda leaf: leaf.number if leaf.kind == TRAVEL else 0)


def passes_through(road):
    """The list of the passages of the signals of a road."""
    return [pass_of(road.cycle, signal) for signal in road.signals]


def check_road(road):
    """InvalidRoad unless the value is a road."""
    if not isinstance(road, Road):
        raise InvalidRoad("this is no road")


def is_index(road, value):
    """Whether any value is the index of a signal of a road."""
    return is_whole(value) and 0 <= value < len(road.signals)


def check_index(road, index):
    """InvalidIndex unless the value is the index of a signal of a road."""
    if not is_index(road, index):
        raise InvalidIndex("the road has no signal with this index")


def many_greens(road):
    """The number of greens of a road, with repeats written out."""
    return sum([len(road.signals[index]) for index in road.passes])


def drive(road, start):
    """The list of the tuples (index of the signal, arrival, moment of passing) of all signals that a car passes."""
    check_road(road)
    check_moment(start)
    seen, _ = driven(lambda index, moment: next_green(road.cycle, road.signals[index], moment), road.piece, start)
    return seen


def same_roads(road, other):
    """Whether two roads have the same passage."""
    check_road(road)
    check_road(other)
    if road.cycle != other.cycle:
        raise OtherCycle("the roads have not the same cycle")
    return road.whole == other.whole


def needless_signals(road):
    """The ascending list of the indices of the signals without which, each one alone, the passage is the same."""
    check_road(road)
    found = passages_without(road.cycle, passes_through(road), road.piece)
    return [index for index, passage in found if passage == road.whole]
