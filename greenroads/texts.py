"""Texts of roads: their words are read into pieces."""
from greenroads.checks import MOST_CYCLE
from greenroads.errors import InvalidText
from greenroads.pieces import SIGNAL, TRAVEL, Piece, many_leaves
from greenroads.signals import is_signal
from greenroads.together import BEHIND, BOTH, SOONER

MOST_WORDS = 400
MOST_BRACKETS = 8
MOST_ROADS = 60
MOST_TIMES = 40
MOST_TRAVEL = 10 ** 30
# The word that parts or closes a bracket, and the bracket that it belongs to.
PARTING = {"|": "{", "&": "<"}
CLOSING = {"}": "{", ">": "<"}


def number_of(digits, longest):
    """The number that a text writes, or None if it writes none without leading zeros, or in more digits."""
    if not digits.isascii() or not digits.isdigit() or (digits[0] == "0" and digits != "0"):
        return None
    # Python refuses to read a number of thousands of digits.
    return int(digits) if len(digits) <= longest else None


def number_in(digits, most):
    """The number that a text writes, or None if it writes none from 0 to most without leading zeros."""
    number = number_of(digits, len(str(most)))
    return number if number is not None and number <= most else None


def green_in(text):
    """The tuple of both numbers of O+G, with None for what is no number."""
    offset, _, length = text.partition("+")
    return number_in(offset, MOST_CYCLE), number_in(length, MOST_CYCLE)


class Bracket:
    """A bracket that is not closed: how it puts together, the number of its first word, its roads up to now."""

    def __init__(self, way, begun):
        self.way = way
        self.begun = begun
        self.roads = [[]]


class Reader:
    """Reads the words of a road one after the other; the road itself is the outermost bracket."""

    def __init__(self, cycle):
        self.cycle = cycle
        self.signals = []
        self.brackets = [Bracket("", -1)]

    def takes(self, index, word):
        """Reads the next word, with its number; whether it is right."""
        if word in (BEHIND, SOONER, BOTH):
            return self.takes_opening(index, word)
        if word in PARTING:
            return self.takes_parting(PARTING[word])
        if word in CLOSING:
            return self.takes_closing(CLOSING[word])
        if word.startswith(")"):
            return self.takes_repeat(index, word[1:])
        if word.startswith("s:"):
            return self.takes_signal(word[2:])
        return self.takes_travel(word)

    def adds(self, piece):
        """Takes a piece as the next one of the road that is read."""
        # A group without travels and signals changes nothing, but repeats could write it out 40 ** 7 times.
        if many_leaves(piece) > 0:
            self.brackets[-1].roads[-1].append(piece)

    def takes_opening(self, index, way):
        """Reads the first word of a bracket."""
        if len(self.brackets) > MOST_BRACKETS:
            return False
        self.brackets.append(Bracket(way, index))
        return True

    def takes_parting(self, way):
        """Reads a word between two roads of a bracket."""
        bracket = self.brackets[-1]
        if bracket.way != way or len(bracket.roads) == MOST_ROADS:
            return False
        bracket.roads.append([])
        return True

    def takes_closing(self, way):
        """Reads the last word of a bracket that is no repeat."""
        bracket = self.brackets[-1]
        if bracket.way != way or len(bracket.roads) == 1:
            return False
        self.brackets.pop()
        self.adds(Piece(way, 1, tuple([Piece(BEHIND, 1, tuple(road)) for road in bracket.roads])))
        return True

    def takes_repeat(self, index, digits):
        """Reads the last word of a repeat."""
        bracket = self.brackets[-1]
        times = number_in(digits, MOST_TIMES)
        if bracket.way != BEHIND or bracket.begun == index - 1 or times is None or times == 0:
            return False
        self.brackets.pop()
        self.adds(Piece(BEHIND, times, tuple(bracket.roads[0])))
        return True

    def takes_signal(self, greens):
        """Reads a signal, whose greens these are."""
        signal = tuple([green_in(green) for green in greens.split(",")])
        if not is_signal(signal, self.cycle):
            return False
        self.adds(Piece(SIGNAL, len(self.signals), ()))
        self.signals.append(signal)
        return True

    def takes_travel(self, word):
        """Reads a travel."""
        ticks = number_in(word, MOST_TRAVEL)
        if ticks is None:
            return False
        self.adds(Piece(TRAVEL, ticks, ()))
        return True


def read_text(cycle, text):
    """The tuple (piece of the whole road, tuple of its signals) of a text; InvalidText if it is no road."""
    if not isinstance(text, str):
        raise InvalidText(None)
    words = text.split(" ") if text != "" else []
    reader = Reader(cycle)
    for index, word in enumerate(words):
        if index == MOST_WORDS or not reader.takes(index, word):
            raise InvalidText(index)
    if len(reader.brackets) > 1:
        raise InvalidText(len(words))
    return Piece(BEHIND, 1, tuple(reader.brackets[0].roads[0])), tuple(reader.signals)
