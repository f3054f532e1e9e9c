"""Values of other kinds than a parameter wants, and the checks of what is raised for them."""
from greenroads.errors import (
    GreenError, InvalidCycle, InvalidMoment, InvalidNumber, InvalidPassage, InvalidSignal)
from greenroads.passages import Passage

GREAT = 10 ** 30
DEEP_TUPLE, DEEP_LIST = (5,), [5]
for _ in range(39):
    DEEP_TUPLE, DEEP_LIST = (DEEP_TUPLE,), [DEEP_LIST]

# Values that are no integer, no signal, no runs, no passage, no road and no windows.
OTHERS = [
    None, True, False, "", "5", b"5", (), [], [5], (5,), {}, {5: 5}, set(), {5}, object(), range(3), len, int,
    [(0, 4)], ((0, 4, 5, 6),), DEEP_TUPLE, DEEP_LIST, ValueError("why")]

PASSAGE = Passage(10, ((2, 3, 5),))
SIGNAL = ((0, 4),)

CYCLES = [0, -1, GREAT + 1, -10, 10 ** 99, -10 ** 99, SIGNAL, PASSAGE]
INTEGERS = [SIGNAL, PASSAGE, "7", "-7", [(2, 3, 5)]]
PASSAGES = [5, 0, SIGNAL, (10, ((2, 3, 5),)), ((2, 3, 5),), [(2, 3, 5)], Passage]
SIGNALS = [
    5, PASSAGE, (0, 4), ([0, 4],), [(0, 4)], ((0, 4), [0, 4]), ((-1, 4),), ((10, 4),), ((0, 0),), ((0, 11),),
    ((0, -1),), ((True, 4),), ((0, True),), ((False, 4),), ((0, 4),) * 7, ((0, 4), (0, 11)), ((0, None),), ((0,),),
    ((0, 4, 1),), ("04",), ((10 ** 99, 4),), ((0, 10 ** 99),)]

# A parameter: a valid value, the error, and the wrong values besides OTHERS.
CYCLE = (10, InvalidCycle, CYCLES)
SIGNALLED = (SIGNAL, InvalidSignal, SIGNALS)
MOMENT = (3, InvalidMoment, INTEGERS)
NUMBER = (3, InvalidNumber, INTEGERS)
TOLD = (PASSAGE, InvalidPassage, PASSAGES)


def others_of(valid):
    """The values of other kinds than that of a valid value."""
    return [value for value in OTHERS if not (isinstance(valid, str) and isinstance(value, str))]


class WrongCalls:
    """The checks of calls, a list of functions with their parameters, for a test case."""

    calls = []
    # Of the OTHERS, those that some parameter takes.
    taken = []

    def check(self, error, call, *arguments):
        with self.subTest(call=call, arguments=repr(arguments)[:200]):
            with self.assertRaises(GreenError) as caught:
                call(*arguments)
            self.assertIs(type(caught.exception), error)
            self.assertIsInstance(str(caught.exception), str)

    def test_valid_arguments_raise_nothing(self):
        for call, parameters in self.calls:
            call(*[valid for valid, _, _ in parameters])

    def test_each_parameter(self):
        for call, parameters in self.calls:
            valid = [value for value, _, _ in parameters]
            for at, (_, error, wrong) in enumerate(parameters):
                for value in [value for value in others_of(valid[at]) if value not in self.taken] + wrong:
                    self.check(error, call, *valid[:at], value, *valid[at + 1:])

    def test_two_at_once(self):
        for call, parameters in self.calls:
            valid = [value for value, _, _ in parameters]
            for at, (_, error, wrong) in enumerate(parameters):
                for later in range(at + 1, len(parameters)):
                    for value in (None, True, DEEP_TUPLE, wrong[0]):
                        for other in (None, False, DEEP_LIST, parameters[later][2][0]):
                            arguments = list(valid)
                            arguments[at], arguments[later] = value, other
                            self.check(error, call, *arguments)

    def test_all_at_once(self):
        for call, parameters in self.calls:
            self.check(parameters[0][1], call, *[None for _ in parameters])
