"""Wrong inputs of sections 7 to 9: each error, alone and two at once, in the order of the document."""
import unittest

from greenroads.courses import Course, breaks, course_difference, course_of, greatest_loss, settled_from
from greenroads.errors import (
    GreenError, InvalidCourse, InvalidCycle, InvalidIndex, InvalidMoment, InvalidNet, InvalidNumber, InvalidParts,
    InvalidPlace, InvalidRoad, InvalidStreets, NotPlain, OtherCycle, TooLarge)
from greenroads.nets import Net, is_route, loss, same_nets, useless_streets
from greenroads.passages import Passage, travel_of
from greenroads.roads import Road
from greenroads.rounds import (
    after_laps, first_wait, free_offsets, free_starts, next_wait, pace, ring, total_wait, wait_points)
from tests.wrong import CYCLE, DEEP_LIST, GREAT, INTEGERS, MOMENT, OTHERS, PASSAGE, SIGNAL, TOLD, WrongCalls

ROAD = Road(10, "s:0+3,5+3 5 s:1+9")
NET = Net(10, [("a", "b", "s:0+2 5"), ("b", "c", "9"), ("q", "q", "1")])
COURSE = Course(10, ((12, PASSAGE), (None, 25)))
ROADS = [5, PASSAGE, SIGNAL, (10, "5"), Road, NET, "5"]
LAPS = INTEGERS + [-1, GREAT + 1, 10 ** 99, -GREAT]
# The wait points of the road are (0, 0), (0, 5) and (1, 1).
POINTS = INTEGERS + [
    (0, 1), (1, 0), (2, 0), (0, 10), (0, -5), (-1, 0), [0, 0], (0,), (0, 0, 0), ((0, 0),), [(0, 0)], (False, 0),
    (0, False), (0, True), (True, 1), (1, True), ("0", 0), (0, "0"), (0, None), (None, 0), (10 ** 99, 0), (0, 10 ** 99)]
INDICES = INTEGERS + [-1, 2, -2, 10 ** 99, -10 ** 99]
STREET_INDICES = INTEGERS + [-1, 3, -3, 10 ** 99, -10 ** 99]
PLACES = ["d", "A", "ab", "a ", "", " ", ("a",), ["a"], b"a", 0, {"a": 1}, "aaaaaaaaa", "a\n"]
NETS = [5, ROAD, PASSAGE, [("a", "b", "1")], (10, [("a", "b", "1")]), Net]
COURSES = [5, PASSAGE, ROAD, COURSE.parts, (10, COURSE.parts), Course]
OTHER_PASSAGE = Passage(20, ((2, 3, 5),))
PARTS = [
    5, PASSAGE, COURSE, [(None, PASSAGE)], (None, PASSAGE), ([None, PASSAGE],), ((None, PASSAGE, 1),), ((None,),), ((),),
    (None,), ((PASSAGE, None),), ((5, PASSAGE),), ((5, 25),), ((5, PASSAGE), (7, PASSAGE)), ((None, PASSAGE), (None, PASSAGE)),
    ((None, PASSAGE), (7, PASSAGE)), ((None, None),), ((None, True),), ((None, False),), ((None, "5"),), ((None, ((2, 3, 5),)),),
    ((None, OTHER_PASSAGE),), ((3, OTHER_PASSAGE), (None, 90)), ((None, Passage),), ((None, COURSE),), ((None, ROAD),),
    # Untils that are no integers, or do not ascend.
    ((True, 5), (None, 7)), ((False, 5), (None, 7)), (("3", 5), (None, 7)), (((3,), 5), (None, 7)),
    ((3, 5), (3, 6), (None, 7)), ((4, 5), (3, 6), (None, 7)), ((3, 5), (4, 6), (4, 6), (None, 7)),
    ((3, 5), (None, 6), (4, 6), (None, 7)), ((3, 5), (None, 7), (None, 7)),
    # Falling ones.
    ((3, 5), (None, 4)), ((3, 16), (None, PASSAGE)), ((3, PASSAGE), (None, 5)), ((3, PASSAGE), (None, travel_of(10, 1))),
    ((10 ** 90, PASSAGE), (None, 10 ** 90)), ((3, -10 ** 99), (None, -10 ** 99 - 1)),
    # The error is in a part behind.
    ((3, 5), [None, 7]), ((3, 5), (4, 6), (None, None)), ((3, 5), (4, [6]), (None, 7)), ((3, 5), 7)]
PARTS_ALLOWED = [
    ((None, PASSAGE),), ((None, 0),), ((None, -10 ** 99),), ((3, 5), (None, 5)), ((3, 6), (None, PASSAGE)),
    ((3, PASSAGE), (None, 6)), ((3, PASSAGE), (4, 15), (None, PASSAGE)), ((-10 ** 99, PASSAGE), (None, PASSAGE))]
STREETS = [
    5, NET, (), [], (("a", "b", "1"),), [["a", "b", "1"]], [("a", "b")], [("a", "b", "1", 2)], [()], [None], ["abc"],
    [("", "b", "1")], [("a", "", "1")], [("A", "b", "1")], [("a", "B", "1")], [("a1", "b", "1")], [("a b", "b", "1")],
    [("aaaaaaaaa", "b", "1")], [("a", "bbbbbbbbb", "1")], [(5, "b", "1")], [("a", 5, "1")], [(b"a", "b", "1")],
    [("a", ("b",), "1")], [("a", "b", 1)], [("a", "b", None)], [("a", "b", "")], [("a", "b", "0")], [("a", "b", "s:0+4")],
    [("a", "b", "x")], [("a", "b", " 1")], [("a", "b", "s:0+11 1")], [("a", "b", ["1"])], [("a", "b", Road(10, "1"))],
    [("a", "b", "1"), None], [("a", "b", "1"), ["b", "c", "1"]], {("a", "b", "1")}, {("a", "b", "1"): 1}, [("a", "b", "1")] * 31,
    [("a\n", "b", "1")], [("a", "b", True)], [(True, "b", "1")]]

DRIVEN = (ROAD, InvalidRoad, ROADS)
NETTED = (NET, InvalidNet, NETS)
PLACE = ("a", InvalidPlace, PLACES)
COURSED = (COURSE, InvalidCourse, COURSES)
CALLS = [
    (after_laps, [DRIVEN, MOMENT, (3, InvalidNumber, LAPS)]),
    (total_wait, [DRIVEN, MOMENT, (3, InvalidNumber, LAPS)]),
    (first_wait, [DRIVEN, MOMENT]),
    (free_starts, [DRIVEN]),
    (wait_points, [DRIVEN]),
    (next_wait, [DRIVEN, ((0, 5), InvalidIndex, POINTS)]),
    (ring, [DRIVEN, MOMENT]),
    (pace, [DRIVEN]),
    (free_offsets, [DRIVEN, (1, InvalidIndex, INDICES)]),
    (Net, [CYCLE, ([("a", "b", "1")], InvalidStreets, STREETS)]),
    (NET.earliest, [PLACE, MOMENT, PLACE]),
    (NET.route, [PLACE, MOMENT, PLACE]),
    (NET.passages, [PLACE]),
    (useless_streets, [NETTED]),
    (loss, [NETTED, (1, InvalidIndex, STREET_INDICES), PLACE, PLACE]),
    (same_nets, [NETTED, NETTED]),
    (Course, [CYCLE, (((None, PASSAGE),), InvalidParts, PARTS)]),
    (COURSE, [MOMENT]),
    (lambda other: COURSE + other, [COURSED]),
    (lambda other: COURSE | other, [COURSED]),
    (lambda other: COURSE & other, [COURSED]),
    (course_of, [TOLD]),
    (breaks, [COURSED]),
    (settled_from, [COURSED]),
    (course_difference, [COURSED, COURSED]),
    (greatest_loss, [COURSED, COURSED])]


class Wrong(WrongCalls, unittest.TestCase):
    calls = CALLS

    def test_not_plain(self):
        calls = [
            (after_laps, (None, None)), (total_wait, (None, None)), (first_wait, (None,)), (free_starts, ()),
            (wait_points, ()), (next_wait, (None,)), (ring, (None,)), (pace, ()), (free_offsets, (None,))]
        for text in ("{ 5 | 6 }", "< 5 & 6 >", "5 { | }", "( < & > 1 )2", "", "0", "s:0+3", "( 0 s:0+3 )2", "{ s:0+1 | }"):
            for call, rest in calls:
                # NotPlain comes ahead of the errors of all other parameters.
                self.check(NotPlain, call, Road(10, text), *rest)
        self.assertEqual(after_laps(Road(10, "( 0 1 )2"), 0, 3), 6)

    def test_bounds_of_numbers(self):
        self.assertEqual([after_laps(ROAD, 0, laps) > laps for laps in (1, GREAT - 1, GREAT)], [True] * 3)
        self.assertEqual([after_laps(ROAD, 7, 0), total_wait(ROAD, 7, 0)], [7, 0])
        for laps in (-1, GREAT + 1):
            self.check(InvalidNumber, after_laps, ROAD, 0, laps)
            self.check(InvalidNumber, total_wait, ROAD, 0, laps)
        for index in (0, 1):
            self.assertEqual(free_offsets(ROAD, index)[0], 5)
        self.check(InvalidIndex, free_offsets, Road(10, "5"), 0)
        self.check(InvalidIndex, next_wait, Road(10, "5"), (0, 0))

    def test_is_route(self):
        for value in OTHERS + [[0], [0, 1], DEEP_LIST]:
            self.assertIs(is_route(NET, "a", "c", value), value == [0, 1])
            self.check(InvalidNet, is_route, (10, NET.streets), None, None, value)
            self.check(InvalidPlace, is_route, NET, "A", None, value)
            self.check(InvalidPlace, is_route, NET, "a", "d", value)
        for value in NETS + OTHERS:
            self.check(InvalidNet, is_route, value, "a", "b", [0])
        for value in PLACES + OTHERS:
            self.check(InvalidPlace, is_route, NET, value, "b", [0])
            self.check(InvalidPlace, is_route, NET, "a", value, [0])

    def test_rows_of_streets(self):
        good = ("a", "b", "1")
        for row, wrong in enumerate([None, ("a", "b", ""), ["a", "b", "1"], ("a", "b", "1 ) 2"), ("", "b", "1")]):
            with self.assertRaises(InvalidStreets) as caught:
                Net(10, [good] * row + [wrong, None])
            self.assertEqual(caught.exception.row, row)
        for streets in ([], [None] * 31, (good,), None, "abc", {0: good}):
            with self.assertRaises(InvalidStreets) as caught:
                Net(10, streets)
            self.assertIsNone(caught.exception.row)

    def test_other_cycle(self):
        for cycle in (1, 9, 11, 20, GREAT):
            other = course_of(travel_of(cycle, 3))
            for call in (course_difference, greatest_loss, lambda one, two: one + two, lambda one, two: one | two,
                         lambda one, two: one & two):
                self.check(OtherCycle, call, COURSE, other)
                self.check(OtherCycle, call, other, COURSE)
                self.check(InvalidCourse, call, other, travel_of(cycle, 3))
            self.check(OtherCycle, same_nets, NET, Net(cycle, [("a", "b", "1")]))
        self.check(InvalidNet, same_nets, NET, (20, NET.streets))
        self.check(InvalidNet, same_nets, (20, NET.streets), Net(20, [("a", "b", "1")]))

    def test_parts_just_within_the_conditions(self):
        for parts in PARTS_ALLOWED:
            self.assertEqual(Course(10, parts).cycle, 10)
        for cycle in (1, GREAT):
            self.assertEqual(Course(cycle, ((None, travel_of(cycle, 5)),)).cycle, cycle)
        for cycle in (0, GREAT + 1):
            self.check(InvalidCycle, Course, cycle, ((None, 5),))
            self.check(InvalidCycle, Net, cycle, [("a", "b", "1")])

    def test_moments_of_nets_come_ahead_of_goals(self):
        for call in (NET.earliest, NET.route):
            self.check(InvalidMoment, call, "a", None, "d")
            self.check(InvalidPlace, call, "a", 3, "d")
            self.check(InvalidPlace, call, "d", None, "d")

    def test_nothing_changes(self):
        streets, parts = [("a", "b", "s:0+4 1"), ("b", "c", "")], ((3, PASSAGE), (None, 5))
        told = [dict(vars(value)) for value in (ROAD, NET, COURSE)]
        for call, arguments in [
                (Net, (10, streets)), (Course, (10, parts)), (after_laps, (ROAD, 3, -1)), (next_wait, (ROAD, (0, 1))),
                (ring, (ROAD, None)), (loss, (NET, 1, "a", "d")), (NET.earliest, ("a", 3, "d")), (breaks, (PASSAGE,)),
                (greatest_loss, (COURSE, None)), (same_nets, (NET, None)), (free_offsets, (ROAD, 2))]:
            self.assertRaises(GreenError, call, *arguments)
        self.assertEqual(streets, [("a", "b", "s:0+4 1"), ("b", "c", "")])
        self.assertEqual(parts, ((3, PASSAGE), (None, 5)))
        self.assertEqual([vars(value) for value in (ROAD, NET, COURSE)], told)

    def test_too_large_nets_come_last(self):
        names = "abcdefghijklm"
        many = [(begin, end, "1") for begin, end in zip(names, names[1:])]
        self.check(TooLarge, Net, 10, many)
        self.check(InvalidStreets, Net, 10, many + [None])
        self.check(InvalidCycle, Net, 0, many)


if __name__ == "__main__":
    unittest.main()
