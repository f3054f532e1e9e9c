"""Wrong inputs of sections 4 to 6: each error, alone and two at once, in the order of the document."""
import unittest

from greenroads.errors import (
    GreenError, InvalidCycle, InvalidIndex, InvalidMoment, InvalidNumber, InvalidPassage, InvalidRoad, InvalidText,
    InvalidWindows, OtherCycle)
from greenroads.passages import Passage, travel_of
from greenroads.roads import Road, drive, needless_signals, same_roads
from greenroads.starts import best_start, count_within, nth_within, total_time, worst_start
from greenroads.windows import fewest_windows, from_windows, road_of
from tests.wrong import CYCLE, GREAT, INTEGERS, MOMENT, NUMBER, PASSAGE, PASSAGES, SIGNAL, TOLD, WrongCalls

ROAD = Road(10, "s:0+4 3")
TEXTS = [5, ROAD, SIGNAL, ["5"], ("5",), "x", " ", "( 5", "{ 5 }", "s:0+11"]
ROADS = [5, PASSAGE, SIGNAL, (10, "5"), Road]
INDICES = INTEGERS + [-1, -10 ** 99]
# A first moment from 0 to below the cycle, a last one less than a cycle behind it, a travel from 0 on.
WINDOWS = [
    5, PASSAGE, (2, 3, 5), ((2, 3, 5),), [2, 3, 5], [[2, 3, 5]], [(2, 3, 5), [2, 3, 5]], [(2, 3, 5), None],
    [None, (2, 3, 5)], [()], [(2, 3)], [(2, 3, 5, 7)], [(2, 3, 5), (2, 3)], [((2, 3, 5),)], {(2, 3, 5)},
    {(2, 3, 5): 1}, [(True, 3, 5)], [(False, 3, 5)], [(2, True, 5)], [(0, False, 5)], [(2, 3, True)], [(2, 3, False)],
    [("2", 3, 5)], [(2, "3", 5)], [(2, 3, "5")], [(2, 3, None)], [(None, 3, 5)], ["235"], [(-1, 3, 5)], [(10, 12, 5)],
    [(2, 1, 5)], [(2, 12, 5)], [(0, 10, 5)], [(9, 19, 5)], [(2, 3, -1)], [(2, 3, -10 ** 99)], [(10 ** 99, 10 ** 99, 5)],
    [(2, 10 ** 99, 5)], [(-8, -7, 5)], [(2, 3, 5), (4, 3, 5)], [(2, 3, 5), (2, 3, -1)]]
WINDOWS_ALLOWED = [
    [(0, 0, 0)], [(0, 9, 0)], [(9, 9, 0)], [(9, 18, 0)], [(2, 11, 10 ** 99)], [(2, 3, 5), (2, 3, 5)],
    [(5, 5, 0), (1, 2, 3)]]
DRIVEN = (ROAD, InvalidRoad, ROADS)
CALLS = [
    (Road, [CYCLE, ("s:0+4 3", InvalidText, TEXTS)]),
    (ROAD, [MOMENT]),
    (drive, [DRIVEN, MOMENT]),
    (lambda start: drive(Road(10, ""), start), [MOMENT]),
    (lambda start: drive(Road(10, "{ 5 | }"), start), [MOMENT]),
    (same_roads, [DRIVEN, DRIVEN]),
    (needless_signals, [DRIVEN]),
    (count_within, [TOLD, NUMBER, MOMENT, MOMENT]),
    (nth_within, [TOLD, NUMBER, (3, InvalidIndex, INDICES)]),
    (total_time, [TOLD, MOMENT, MOMENT]),
    (worst_start, [TOLD]),
    (best_start, [TOLD]),
    (from_windows, [CYCLE, ([(2, 3, 5)], InvalidWindows, WINDOWS)]),
    (fewest_windows, [TOLD]),
    (road_of, [TOLD])]


class Wrong(WrongCalls, unittest.TestCase):
    calls = CALLS

    def test_values_that_are_nearly_right(self):
        for value in PASSAGES + ROADS:
            if value is not PASSAGE:
                self.check(InvalidPassage, road_of, value)
        self.check(InvalidRoad, drive, ROAD.passage(), 3)
        self.check(InvalidRoad, drive, "s:0+4 3", 3)
        self.check(InvalidPassage, count_within, ROAD, 4, 0, 10)
        self.check(InvalidPassage, fewest_windows, ROAD)

    def test_errors_come_also_where_nothing_would_be_counted(self):
        self.check(InvalidNumber, count_within, PASSAGE, None, 10, 0)
        self.check(InvalidMoment, count_within, PASSAGE, 4, 10, None)
        self.check(InvalidMoment, total_time, PASSAGE, True, -10)
        self.check(InvalidIndex, nth_within, PASSAGE, -10 ** 9, -1)

    def test_other_cycle(self):
        for cycle in (1, 9, 11, 20, GREAT):
            self.check(OtherCycle, same_roads, ROAD, Road(cycle, "3"))
            self.check(OtherCycle, same_roads, Road(cycle, "3"), ROAD)
        self.check(InvalidRoad, same_roads, Road(20, "3"), (20, "3"))
        self.check(InvalidRoad, same_roads, (20, "3"), Road(20, "3"))

    def test_bounds_of_windows(self):
        for windows in WINDOWS_ALLOWED:
            self.assertEqual(from_windows(10, windows).cycle, 10)
        for cycle in (1, 2, 7, GREAT):
            for window in [(0, 0, 0), (0, cycle - 1, 0), (cycle - 1, cycle - 1, 0), (cycle - 1, 2 * cycle - 2, 0)]:
                self.assertEqual(from_windows(cycle, [window]).cycle, cycle)
            for window in [(cycle, cycle, 0), (0, cycle, 0), (-1, -1, 0), (cycle - 1, 2 * cycle - 1, 0), (0, 0, -1)]:
                self.check(InvalidWindows, from_windows, cycle, [window])
                self.check(InvalidWindows, from_windows, cycle, [(0, 0, 0), window])

    def test_bounds_of_cycles(self):
        for cycle in (0, -1, GREAT + 1):
            self.check(InvalidCycle, Road, cycle, "3")
            self.check(InvalidCycle, from_windows, cycle, [(0, 0, 0)])
        for cycle in (1, GREAT):
            self.assertEqual(Road(cycle, "3").cycle, cycle)

    def test_nothing_changes(self):
        passage, windows = Passage(10, ((2, 3, 5),)), [(2, 3, 5), [2, 3, 5]]
        road = Road(10, "s:0+4 3")
        told = dict(vars(road))
        for call, arguments in [
                (count_within, (passage, 4, 0, None)), (nth_within, (passage, 4, -1)), (from_windows, (10, windows)),
                (road_of, (travel_of(10, -3),)), (drive, (road, None)), (road, (None,)), (same_roads, (road, None))]:
            self.assertRaises(GreenError, call, *arguments)
        self.assertEqual([passage.cycle, passage.runs, windows], [10, ((2, 3, 5),), [(2, 3, 5), [2, 3, 5]]])
        self.assertEqual(vars(road), told)


if __name__ == "__main__":
    unittest.main()
