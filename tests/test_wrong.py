"""Wrong inputs of sections 2 and 3: each error, alone and two at once, in the order of the document."""
import unittest

from greenroads.errors import (
    GreenError, InvalidCycle, InvalidMoment, InvalidNumber, InvalidPassage, InvalidRuns, InvalidSignal, OtherCycle)
from greenroads.passages import Passage, first_difference, first_later, gaps, pass_of, platoons, travel_of
from greenroads.signals import (
    count_green, first_hit, is_green, is_signal, last_green, next_green, shortest_greens)
from tests.wrong import (
    CYCLE, CYCLES, DEEP_LIST, GREAT, INTEGERS, MOMENT, NUMBER, OTHERS, PASSAGE, SIGNAL, SIGNALLED, SIGNALS, TOLD,
    WrongCalls)

LENGTHS = INTEGERS + [0, -1, 11, 10 ** 99]
RUNS = [
    5, PASSAGE, (2, 3, 5), [(2, 3, 5)], ([2, 3, 5],), ((2, 3, 5), [6, 7, 9]), ((2, 3),), ((2, 3, 5, 7),), ((),),
    ((True, 3, 5),), ((2, True, 5),), ((False, 3, 5),), ((2, 3, True),), ((2, 3, False),), ((2, 3, None),), (("2", 3, 5),),
    (None,), ((2, 3, 5), None), ((2, 3, 5), (6, 7, True)),
    # The last start lies ahead of the first one.
    ((3, 2, 5),), ((2, 3, 5), (7, 6, 9)),
    # Starts do not ascend.
    ((2, 3, 5), (3, 4, 9)), ((2, 3, 5), (2, 4, 9)), ((6, 7, 9), (2, 3, 5)), ((2, 3, 5), (2, 3, 5)),
    # Arrivals do not ascend.
    ((2, 3, 5), (5, 6, 6)), ((2, 3, 5), (5, 6, 5)), ((2, 3, 5), (5, 6, -9)), ((2, 2, 5), (5, 5, 5)),
    # The same between the last run and the first one of the next cycle.
    ((2, 12, 5),), ((2, 3, 5), (5, 12, 8)), ((2, 3, 5), (5, 13, 8)), ((0, 10, 0),), ((0, 0, 0), (10, 10, 10)),
    ((2, 3, 5), (5, 6, 14)), ((2, 3, 5), (5, 6, 15)), ((2, 3, 5), (5, 5, 15)), ((0, 0, 0), (1, 9, 3)),
    ((0, 0, 0), (5, 5, 10 ** 60)), ((2, 3, 5), (5, 10 ** 60, 8))]
RUNS_ALLOWED = [
    ((2, 11, 5),), ((2, 3, 5), (5, 11, 8)), ((2, 3, 5), (5, 6, 13)), ((2, 3, 5), (5, 5, 14)), ((2, 3, 5), (4, 4, 7)),
    ((2, 2, 5), (3, 3, 6)), ((-8, -7, 10 ** 60),), ((12, 12, 0), (21, 21, 9))]

# Each function with its parameters.
LENGTH = (3, InvalidNumber, LENGTHS)
CALLS = [
    (is_green, [CYCLE, SIGNALLED, MOMENT]),
    (next_green, [CYCLE, SIGNALLED, MOMENT]),
    (last_green, [CYCLE, SIGNALLED, MOMENT]),
    (count_green, [CYCLE, SIGNALLED, MOMENT, MOMENT]),
    (shortest_greens, [CYCLE, SIGNALLED]),
    (first_hit, [CYCLE, NUMBER, NUMBER, NUMBER, LENGTH]),
    (Passage, [CYCLE, (((2, 3, 5),), InvalidRuns, RUNS)]),
    (PASSAGE, [MOMENT]),
    (travel_of, [CYCLE, NUMBER]),
    (pass_of, [CYCLE, SIGNALLED]),
    (platoons, [TOLD]),
    (gaps, [TOLD]),
    (first_difference, [TOLD, TOLD]),
    (first_later, [TOLD, TOLD]),
    (lambda other: PASSAGE + other, [TOLD]),
    (lambda other: PASSAGE | other, [TOLD]),
    (lambda other: PASSAGE & other, [TOLD])]


class Wrong(WrongCalls, unittest.TestCase):
    calls = CALLS

    def test_is_signal_raises_for_the_cycle_alone(self):
        for cycle in OTHERS + CYCLES:
            for value in (SIGNAL, None, DEEP_LIST):
                self.check(InvalidCycle, is_signal, value, cycle)
        for value in OTHERS + SIGNALS:
            self.assertIs(is_signal(value, 10), False)

    def test_bounds_of_cycles(self):
        for cycle in (1, GREAT):
            self.assertTrue(is_signal(((cycle - 1, cycle),), cycle))
            self.assertEqual(Passage(cycle, ((0, 0, 0),)).cycle, cycle)
            self.assertEqual(travel_of(cycle, 0).cycle, cycle)
            self.assertEqual(first_hit(cycle, 0, 0, 0, cycle), 0)
        for cycle in (0, GREAT + 1):
            self.check(InvalidCycle, is_signal, ((0, 1),), cycle)
            self.check(InvalidCycle, Passage, cycle, ((0, 0, 0),))
            self.check(InvalidCycle, travel_of, cycle, 0)
            self.check(InvalidCycle, pass_of, cycle, ((0, 1),))
            self.check(InvalidCycle, first_hit, cycle, 0, 0, 0, 1)

    def test_bounds_depend_on_the_cycle(self):
        for cycle in (1, 2, 7, GREAT):
            self.check(InvalidNumber, first_hit, cycle, 0, 0, 0, cycle + 1)
            for green in ((cycle, 1), (0, cycle + 1), (-1, 1), (0, 0)):
                self.check(InvalidSignal, next_green, cycle, (green,), 0)
                self.check(InvalidSignal, pass_of, cycle, ((0, 1), green))
            self.check(InvalidRuns, Passage, cycle, ((0, cycle, 0),))
            self.assertEqual(Passage(cycle, ((0, cycle - 1, 0),)).runs, ((0, cycle - 1, 0),))

    def test_runs_just_within_the_conditions(self):
        for runs in RUNS_ALLOWED:
            with self.subTest(runs):
                passage = Passage(10, runs)
                for first, last, arrival in runs:
                    self.assertEqual([passage(first), passage(last)], [arrival, arrival + last - first])
                    self.assertGreater(passage(last + 1), passage(last))


class OtherCycles(unittest.TestCase):
    CALLS = [
        first_difference, first_later, lambda one, other: one + other, lambda one, other: one | other,
        lambda one, other: one & other]

    def test_other_cycle(self):
        for cycle in (1, 9, 11, 20, GREAT):
            other = travel_of(cycle, 3)
            for call in self.CALLS:
                self.assertRaises(OtherCycle, call, PASSAGE, other)
                self.assertRaises(OtherCycle, call, other, PASSAGE)

    def test_invalid_passages_come_first(self):
        other = travel_of(20, 3)
        for call in (first_difference, first_later):
            self.assertRaises(InvalidPassage, call, 20, other)
            self.assertRaises(InvalidPassage, call, other, 20)
        for call in self.CALLS:
            self.assertRaises(InvalidPassage, call, other, (20, other.runs))

    def test_nothing_changes(self):
        passage = Passage(10, ((2, 3, 5),))
        for call in self.CALLS:
            self.assertRaises(GreenError, call, passage, travel_of(20, 3))
            self.assertRaises(GreenError, call, passage, None)
        self.assertRaises(GreenError, passage, None)
        self.assertEqual((passage.cycle, passage.runs), (10, ((2, 3, 5),)))


if __name__ == "__main__":
    unittest.main()
