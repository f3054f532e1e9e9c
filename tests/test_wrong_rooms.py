"""Wrong inputs of sections 10 to 13: each error, alone and two at once, in the order of the document."""
import unittest

from greenroads.errors import (
    Contradiction, GreenError, InvalidChanges, InvalidCycle, InvalidIndex, InvalidMoment, InvalidNet, InvalidNumber,
    InvalidPlace, InvalidRecords, InvalidRoad, InvalidSignal)
from greenroads.nets import Net
from greenroads.plans import (
    arrival_with, course_with, drive_with, first_touched, net_courses, net_earliest, worst_loss)
from greenroads.records import certain, fits, highest, lowest, widest
from greenroads.roads import Road
from greenroads.rooms import ClockRoom, Room
from tests.wrong import CYCLE, GREAT, INTEGERS, MOMENT, NUMBER, PASSAGE, SIGNAL, SIGNALS, OTHERS, WrongCalls

ROAD = Road(10, "s:0+3,5+3 5 s:1+9")
NET = Net(10, [("a", "b", "s:0+2 5 s:3+3"), ("b", "c", "9"), ("q", "q", "s:1+4 1")])
CHANGES = [(15, 0, ((6, 3),)), (15, 1, ((6, 3),)), (16, 0, ((6, 3),))]
NET_CHANGES = [(15, 0, 1, ((6, 3),)), (15, 2, 0, ((6, 3),)), (16, 0, 0, ((6, 3),))]
GOOD, NET_GOOD = CHANGES[0], NET_CHANGES[0]
ROADS = [5, PASSAGE, SIGNAL, (10, "5"), Road, NET, "5"]
NETS = [5, ROAD, PASSAGE, [("a", "b", "1")], (10, [("a", "b", "1")]), Net]
PLACES = ["d", "A", "ab", "a ", "", ("a",), ["a"], b"a", 0]
# Changes that are none, each one alone in a list, and behind a good one.
NO_CHANGES = [
    None, 5, (), (15,), (15, 0), [15, 0, ((6, 3),)], (15, 0, ((6, 3),), 1), (True, 0, ((6, 3),)), ("15", 0, ((6, 3),)),
    (None, 0, ((6, 3),)), (15, True, ((6, 3),)), (15, False, ((6, 3),)), (15, "0", ((6, 3),)), (15, 2, ((6, 3),)),
    (15, -1, ((6, 3),)), (15, None, ((6, 3),)), (15, 10 ** 99, ((6, 3),)), (15, 0, (6, 3)), (15, 0, [(6, 3)]), (15, 0, ()),
    (15, 0, None), (15, 0, ((10, 3),)), (15, 0, ((6, 11),)), (15, 0, ((6, 0),)), (15, 0, ([6, 3],)), (15, 0, ((6, True),)),
    (15, 0, ((6, 3),) * 7), {15: 0}, "150", PASSAGE]
NO_NET_CHANGES = [
    None, 5, (), (15, 0, 1), [15, 0, 1, ((6, 3),)], (15, 0, 1, ((6, 3),), 1), (True, 0, 1, ((6, 3),)), ("15", 0, 1, ((6, 3),)),
    (15, True, 0, ((6, 3),)), (15, False, 0, ((6, 3),)), (15, 3, 0, ((6, 3),)), (15, -1, 0, ((6, 3),)), (15, "0", 0, ((6, 3),)),
    (15, None, 0, ((6, 3),)), (15, 0, True, ((6, 3),)), (15, 0, 2, ((6, 3),)), (15, 1, 0, ((6, 3),)), (15, 2, 1, ((6, 3),)),
    (15, 0, -1, ((6, 3),)), (15, 0, None, ((6, 3),)), (15, 0, 1, (6, 3)), (15, 0, 1, ()), (15, 0, 1, ((10, 3),)),
    (15, 0, 1, ([6, 3],)), (15, 0, 1, None), (15, 0, ((6, 3),)), (15, [0], 1, ((6, 3),)), (15, 0, [1], ((6, 3),))]
NOT_LISTS = [None, 5, tuple(CHANGES), {}, "", GOOD, {GOOD}, {GOOD: 1}, [GOOD] * 21, [None] * 21, [None] * 500]
WRONG = [value for value in NOT_LISTS if value is not None] + [[value] for value in NO_CHANGES]
WRONG_NET = [value for value in NOT_LISTS if value is not None] + [[value] for value in NO_NET_CHANGES]
RECORDS = [
    5, (), [], (0, 5), ((0, 5),), [[0, 5]], [(0,)], [(0, 5, 5)], [()], [None], [(True, 5)], [(0, True)], [(0, "5")],
    [("0", 5)], [(0, None)], [(0, 5), None], [(0, 5), [0, 5]], [(0, 5)] * 41, {(0, 5)}, {(0, 5): 1}, ["05"], [((0,), 5)],
    [(0, (5,))]]
TRAVELS = INTEGERS + [-1, GREAT + 1, 10 ** 99, -GREAT]
INDICES = INTEGERS + [-1, 2, -2, 10 ** 99, -10 ** 99]


def room_of():
    room = Room(ROAD)
    room.plan(0, ((6, 3),), 3)
    return room


def clock_of():
    room = ClockRoom(ROAD, 0)
    room.plan(0, ((6, 3),), 3)
    return room


DRIVEN = (ROAD, InvalidRoad, ROADS)
NETTED = (NET, InvalidNet, NETS)
CHANGED = (CHANGES, InvalidChanges, WRONG)
NET_CHANGED = (NET_CHANGES, InvalidChanges, WRONG_NET)
PLACE = ("a", InvalidPlace, PLACES)
TRAVEL = (3, InvalidNumber, TRAVELS)
RECORDED = ([(0, 5), (13, 16)], InvalidRecords, RECORDS)
INDEX = (0, InvalidIndex, INDICES)
SIGNALLED = (SIGNAL, InvalidSignal, SIGNALS)
CALLS = [
    (course_with, [DRIVEN, CHANGED]), (arrival_with, [DRIVEN, CHANGED, MOMENT]), (drive_with, [DRIVEN, CHANGED, MOMENT]),
    (first_touched, [DRIVEN, CHANGED]), (worst_loss, [DRIVEN, CHANGED]),
    (net_earliest, [NETTED, NET_CHANGED, PLACE, MOMENT, PLACE]), (net_courses, [NETTED, NET_CHANGED, PLACE]),
    (fits, [CYCLE, TRAVEL, RECORDED]), (lowest, [CYCLE, TRAVEL, RECORDED]), (highest, [CYCLE, TRAVEL, RECORDED]),
    (certain, [CYCLE, TRAVEL, RECORDED, MOMENT]), (widest, [CYCLE, TRAVEL, RECORDED]),
    (Room, [DRIVEN]), (ClockRoom, [DRIVEN, MOMENT])]
for make in (room_of, clock_of):
    CALLS += [
        (lambda *told, make=make: make().signal_at(*told), [INDEX, MOMENT]),
        (lambda *told, make=make: make().arrival(*told), [MOMENT]),
        (lambda *told, make=make: make().plan(*told), [INDEX, SIGNALLED, MOMENT]),
        (lambda *told, make=make: make().shift(*told), [INDEX, NUMBER, MOMENT]),
        (lambda *told, make=make: make().drop(*told), [INDEX, MOMENT])]
CALLS.append((lambda ticks: clock_of().advance(ticks), [(3, InvalidNumber, INTEGERS + [0, -1, GREAT + 1, -10 ** 99])]))


class Wrong(WrongCalls, unittest.TestCase):
    calls = CALLS
    taken = [[], [(0, 4)]]

    def check_row(self, row, call, *arguments):
        with self.subTest(arguments=repr(arguments)[:200]):
            with self.assertRaises(InvalidChanges) as caught:
                call(*arguments)
            self.assertEqual(caught.exception.row, row)

    def test_rows_of_changes(self):
        for call, thing, good, wrong in [(course_with, ROAD, CHANGES, NO_CHANGES),
                                         (net_courses, NET, NET_CHANGES, NO_NET_CHANGES)]:
            rest = ("a",) if thing is NET else ()
            for value in NOT_LISTS:
                self.check_row(None, call, thing, value, *rest)
            for value in wrong:
                self.check_row(0, call, thing, [value, None], *rest)
                self.check_row(3, call, thing, [*good, value, None], *rest)

    def test_changes_that_do_not_ascend(self):
        for one, other in [((15, 0), (15, 0)), ((15, 1), (15, 0)), ((15, 0), (14, 1)), ((15, 0), (-10 ** 99, 1))]:
            changes = [(*one, ((6, 3),)), (*other, ((1, 1),))]
            for call in (course_with, first_touched, worst_loss):
                self.check_row(1, call, ROAD, changes)
            self.check_row(2, course_with, ROAD, [(-10 ** 100, 0, ((6, 3),))] + changes)
            self.check_row(1, drive_with, ROAD, [*changes, None], None)
        for one, other in [((15, 0, 1), (15, 0, 1)), ((15, 0, 1), (15, 0, 0)), ((15, 2, 0), (15, 0, 1)), ((15, 0, 0), (14, 2, 0))]:
            self.check_row(1, net_courses, NET, [(*one, ((6, 3),)), (*other, ((1, 1),))], None)
        self.check_row(1, course_with, ROAD, [GOOD, GOOD, None])
        for one, other in [((15, 0), (15, 1)), ((14, 1), (15, 0))]:
            self.assertEqual(course_with(ROAD, [(*one, ((6, 3),)), (*other, ((1, 1),))]).cycle, 10)

    def test_how_many_changes(self):
        changes = [(moment, 0, ((6, 3),)) for moment in range(20)]
        self.assertEqual(course_with(ROAD, changes).cycle, 10)
        self.check_row(None, course_with, ROAD, changes + [(20, 0, ((6, 3),))])
        changes = [(moment, 0, 0, ((6, 3),)) for moment in range(20)]
        self.assertEqual(list(net_courses(NET, changes, "a")), ["a", "b", "c"])
        self.check_row(None, net_courses, NET, changes + [(20, 0, 0, ((6, 3),))], "a")

    def test_rows_of_records(self):
        for call in (fits, lowest, highest, widest):
            for value in (None, 5, (), [], ((0, 5),), [(0, 5)] * 41):
                self.check_records(None, call, 10, 3, value)
            for row in (0, 1, 5):
                for value in (None, [0, 5], (0, True), (0, 5, 5), (0, "5")):
                    self.check_records(row, call, 10, 3, [(0, 5)] * row + [value, None])
        self.assertTrue(fits(10, 3, [(0, 5)] * 40))

    def check_records(self, row, call, *arguments):
        with self.assertRaises(InvalidRecords) as caught:
            call(*arguments)
        self.assertEqual(caught.exception.row, row)

    def test_contradictions_come_last(self):
        records = [(0, 5), (3, 4)]
        for call in (lowest, highest, widest):
            self.check(InvalidCycle, call, 0, 3, records)
            self.check(InvalidNumber, call, 10, -1, records)
            self.check(InvalidRecords, call, 10, 3, records + [None])
            self.check(Contradiction, call, 10, 0, records)
        self.check(InvalidMoment, certain, 10, 0, records, None)
        self.check(Contradiction, certain, 10, 0, records, 3)
        self.assertIs(fits(10, 0, records), False)

    def test_bounds_of_travels(self):
        for travel in (0, GREAT):
            self.assertIs(fits(10, travel, [(0, 2 * GREAT)]), True)
        for travel in (-1, GREAT + 1):
            for call in (fits, lowest, highest, widest):
                self.check(InvalidNumber, call, 10, travel, [(0, 2 * GREAT)])

    def test_rooms_in_the_order_of_their_parameters(self):
        for room in (room_of(), clock_of()):
            self.check(InvalidIndex, room.plan, None, None, None)
            self.check(InvalidSignal, room.plan, 0, None, None)
            self.check(InvalidMoment, room.plan, 0, SIGNAL, None)
            self.check(InvalidIndex, room.shift, None, None, None)
            self.check(InvalidNumber, room.shift, 0, None, None)
            self.check(InvalidMoment, room.shift, 0, 5, None)
            self.check(InvalidIndex, room.drop, None, None)
            self.check(InvalidMoment, room.drop, 0, None)
            self.check(InvalidIndex, room.drop, 0, 4)
            self.check(InvalidIndex, room.drop, 1, 3)
            self.check(InvalidIndex, room.signal_at, None, None)
            self.check(InvalidMoment, room.signal_at, 0, None)
        self.check(InvalidIndex, Room(Road(10, "5")).plan, 0, SIGNAL, 3)

    def test_rooms_of_other_values(self):
        for value in OTHERS + ROADS + [room_of(), Room]:
            self.check(InvalidRoad, Room, value)
            self.check(InvalidRoad, ClockRoom, value, None)

    def test_nothing_changes(self):
        room, clock, changes, records = room_of(), clock_of(), [GOOD, GOOD], [(0, 5), (3, 4)]
        told = [dict(vars(room)), dict(vars(clock)), room.log()]
        for call, arguments in [
                (room.plan, (0, SIGNAL, None)), (room.shift, (0, 5, "3")), (room.drop, (0, 5)), (clock.advance, (0,)),
                (clock.plan, (0, SIGNAL, -1)), (room.preview, (("drop", 0, 3), ("drop", 0, 3))), (room.arrival, (None,)),
                (course_with, (ROAD, changes)), (lowest, (10, 0, records)), (clock.preview, (("advance", 1), ("undo",)))]:
            self.assertRaises(GreenError, call, *arguments)
        self.assertEqual([dict(vars(room)), dict(vars(clock)), room.log()], told)
        self.assertEqual([changes, records], [[GOOD, GOOD], [(0, 5), (3, 4)]])


if __name__ == "__main__":
    unittest.main()
