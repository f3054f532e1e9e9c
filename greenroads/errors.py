"""The errors of the package. Indices and rows are counted from 0."""


class GreenError(ValueError):
    """The base class of all errors of the package."""


class InvalidText(GreenError):
    """A text is no road; index is the number of the first wrong word, or None."""

    def __init__(self, index):
        super().__init__(f"the text is wrong at word {index}")
        self.index = index


class TooLarge(GreenError):
    """There is more of something than the limit."""

    def __init__(self, limit):
        super().__init__(f"more than {limit}")
        self.limit = limit


class InvalidStreets(GreenError):
    """Streets are not those of a net; row is the first wrong one, or None."""

    def __init__(self, row):
        super().__init__(f"street {row} is wrong")
        self.row = row


class InvalidChanges(GreenError):
    """Changes are wrong; row is the first wrong one, or None."""

    def __init__(self, row):
        super().__init__(f"change {row} is wrong")
        self.row = row


class InvalidRecords(GreenError):
    """Records are wrong; row is the first wrong one, or None."""

    def __init__(self, row):
        super().__init__(f"record {row} is wrong")
        self.row = row


class Contradiction(GreenError):
    """No passage has both records; first and second are their indices."""

    def __init__(self, first, second):
        super().__init__(f"the records {first} and {second} contradict")
        self.first = first
        self.second = second


class InvalidCycle(GreenError):
    """A cycle is no integer from 1 to 10 ** 30."""


class InvalidSignal(GreenError):
    """A signal is no tuple of 1 to 6 greens of the cycle."""


class InvalidMoment(GreenError):
    """A moment is no integer."""


class InvalidNumber(GreenError):
    """A number is no integer in its bounds."""


class InvalidIndex(GreenError):
    """An index is none of those that there are."""


class InvalidRuns(GreenError):
    """Runs are not those of a passage."""


class InvalidPassage(GreenError):
    """A value is no passage."""


class OtherCycle(GreenError):
    """Two values have not the same cycle."""


class InvalidWindows(GreenError):
    """Windows are no list of at least one window."""


class Backward(GreenError):
    """A passage has a duration below 0."""


class InvalidRoad(GreenError):
    """A value is no road."""


class NotPlain(GreenError):
    """A road is not plain, or its travel is 0."""


class InvalidNet(GreenError):
    """A value is no net."""


class InvalidPlace(GreenError):
    """A value is no place of the net."""


class InvalidParts(GreenError):
    """Parts are not those of a course."""


class InvalidCourse(GreenError):
    """A value is no course."""


class InvalidStep(GreenError):
    """A step of a preview is no call of the room."""


class Nothing(GreenError):
    """There is nothing to undo."""


class InvalidCommand(GreenError):
    """A command is none of the console's."""
