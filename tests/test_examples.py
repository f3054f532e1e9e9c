"""The examples of the document, as it writes them."""
import unittest

from greenroads.console import Console
from greenroads.courses import Course, breaks, course_of, greatest_loss, settled_from
from greenroads.errors import Contradiction, InvalidText
from greenroads.nets import Net, loss, useless_streets
from greenroads.passages import Passage, first_difference, gaps, pass_of, platoons, travel_of
from greenroads.plans import course_with, drive_with, first_touched, net_courses, worst_loss
from greenroads.records import certain, highest, lowest, widest
from greenroads.roads import Road, drive, needless_signals
from greenroads.rooms import ClockRoom, Room
from greenroads.rounds import (
    after_laps, first_wait, free_offsets, free_starts, pace, ring, total_wait, wait_points)
from greenroads.signals import count_green, first_hit, last_green, next_green, shortest_greens
from greenroads.starts import best_start, count_within, nth_within, total_time, worst_start
from greenroads.windows import fewest_windows, from_windows, road_of


class Examples(unittest.TestCase):
    def setUp(self):
        self.one = Passage(10, ((2, 3, 5),))
        self.two = Passage(10, ((0, 1, 5),))
        self.nine = Passage(10, ((0, 9, 9),))

    def test_signals(self):
        found = [next_green(10, ((0, 4),), 5), last_green(10, ((0, 4),), 5), count_green(10, ((0, 4),), 0, 25)]
        self.assertEqual(found, [10, 3, 12])
        self.assertEqual(shortest_greens(10, ((8, 3), (1, 2), (5, 1))), ((5, 1), (8, 5)))
        self.assertEqual([first_hit(10, 0, 4, 3, 2), first_hit(10, 0, 4, 5, 1)], [1, None])

    def test_passages(self):
        one, two, nine = self.one, self.two, self.nine
        found = [one(0), one(3), one(4), (two | nine).runs, (two & nine).runs, (one + two).runs]
        self.assertEqual(found, [5, 6, 15, ((0, 1, 5), (2, 5, 11)), ((6, 11, 15),), ((3, 3, 15),)])
        found = [platoons(one), gaps(one), one.latest().runs, first_difference(two, two | nine)]
        self.assertEqual(found, [[(4, 12, 15)], [(7, 14)], ((4, 4, -7), (5, 5, 2)), 2])
        self.assertIs(pass_of(10, ((0, 4),)) + travel_of(10, 3) + pass_of(10, ((5, 4),)) == one, True)

    def test_one_two_and_nine_as_roads(self):
        self.assertTrue(pass_of(10, ((0, 2),)) + travel_of(10, 5) == self.two)
        self.assertTrue(travel_of(10, 9) == self.nine)
        for text, passage in [("s:0+4 3 s:5+4", self.one), ("s:0+2 5", self.two), ("9", self.nine)]:
            self.assertTrue(Road(10, text).passage() == passage)
        self.assertEqual([self.one(start) for start in range(13)], [5, 5, 5, 6] + [15] * 9)
        self.assertEqual(self.one.runs, ((2, 3, 5),))
        self.assertEqual(self.two.runs, ((0, 1, 5),))
        self.assertEqual(self.nine.runs, ((0, 9, 9),))
        self.assertEqual([self.two(start) for start in (-8, 0, 1, 2, 10)], [5, 5, 6, 15, 15])
        self.assertEqual([self.nine(start) for start in (-9, 0, 25)], [0, 9, 34])

    def test_roads(self):
        road = Road(10, "s:0+4 3 s:5+4")
        found = [road.passage().runs, road.signals, drive(road, 1), Road(10, "( s:0+4 3 )2").passage().runs]
        wanted = [((2, 3, 5),), (((0, 4),), ((5, 4),)), [(0, 1, 1), (1, 4, 5)], ((0, 0, 6), (3, 3, 13))]
        self.assertEqual(found, wanted)
        found = [Road(10, "{ s:0+2 5 | 9 }")(2), Road(10, "< s:0+2 5 & 9 >")(2)]
        self.assertEqual(found + [needless_signals(Road(10, "s:0+4 s:0+4 3"))], [11, 15, [0, 1]])
        with self.assertRaises(InvalidText) as caught:
            Road(10, "3 ( 4")
        self.assertEqual(caught.exception.index, 3)

    def test_starts(self):
        one = self.one
        found = [count_within(one, 4, 0, 10), count_within(one, 4, 0, 10 ** 40) == 3 * 10 ** 39, nth_within(one, 4, 3)]
        self.assertEqual(found, [3, True, 11])
        self.assertEqual([total_time(one, 0, 10), worst_start(one), best_start(one)], [66, (11, 4), (3, 2)])

    def test_windows(self):
        one, two, nine = self.one, self.two, self.nine
        found = [fewest_windows(one), fewest_windows(two | nine), fewest_windows(two & nine)]
        self.assertEqual(found, [[(2, 3, 3)], [(0, 1, 5), (0, 9, 9)], [(6, 11, 9)]])
        self.assertEqual([road_of(one).text, road_of(two | nine).text], ["s:2+2 3", "{ s:0+2 5 | 9 }"])
        self.assertIs(from_windows(10, [(0, 1, 5), (0, 9, 9)]) == two | nine, True)

    def test_rounds(self):
        road = Road(10, "s:0+3,5+3 5")
        found = [free_starts(road), first_wait(road, 3), after_laps(road, 3, 2), total_wait(road, 3, 10 ** 30), pace(road)]
        self.assertEqual(found, [(5, [(0, 2)]), (0, 0, 3, 5), 15, 2, (5, 1)])
        road = Road(10, "s:0+6 1")
        found = [free_starts(road), wait_points(road), first_wait(road, 0), ring(road, 0), pace(road)]
        self.assertEqual(found, [(1, []), [(0, 0)], (6, 0, 6, 10), (0, [(0, 0)], 6, 10), (5, 3)])
        self.assertEqual(after_laps(road, 0, 7), 11)
        self.assertEqual(free_offsets(Road(10, "s:0+3,5+3 4 s:0+1,5+1 1"), 1), (5, [(0, 1), (4, 4)]))

    def test_nets(self):
        net = Net(10, [("a", "b", "s:0+2 5"), ("a", "b", "9"), ("b", "c", "s:5+4 1"), ("c", "a", "2")])
        found = [net.earliest("a", 2, "c"), net.route("a", 0, "c"), net.passages("a")["c"].runs, useless_streets(net)]
        self.assertEqual(found, [16, [0, 2], ((0, 1, 6),), []])
        found = [loss(net, 1, "a", "b"), loss(net, 1, "a", "c"), loss(net, 2, "a", "c")]
        self.assertEqual(found, [(4, 2), (0, 0), None])

    def test_courses(self):
        old, new = Passage(10, ((0, 2, 4),)), Passage(10, ((6, 8, 10),))
        course = Course(10, ((12, old), (15, 20), (None, new)))
        found = [course(12), course(13), course(16), settled_from(course)[0], course == Course(10, ((12, old), (None, new)))]
        self.assertEqual(found, [16, 20, 20, 13, True])
        self.assertEqual([greatest_loss(course, course_of(old)), breaks(course)], [(6, 19), [12]])

    def test_plans(self):
        road, changes = Road(10, "s:0+3 4"), [(15, 0, ((6, 3),))]
        found = [course_with(road, changes)(start) for start in [12, 13, 16, 17]]
        self.assertEqual(found, [16, 20, 20, 21])
        found = [drive_with(road, changes, 13), first_touched(road, changes), worst_loss(road, changes)]
        self.assertEqual(found, [[(0, 13, 16)], 13, (6, 19)])
        net = Net(10, [("a", "b", "s:0+3 4"), ("b", "c", "1")])
        self.assertEqual(net_courses(net, [(15, 0, 0, ((6, 3),))], "a")["c"](13), 21)

    def test_records(self):
        records = [(0, 5), (3, 6)]
        found = [lowest(10, 2, records).runs, highest(10, 2, records).runs]
        self.assertEqual(found, [((2, 2, 5), (4, 9, 6)), ((0, 0, 5), (3, 3, 6))])
        found = [certain(10, 2, records, 13), certain(10, 2, records, 12), widest(10, 2, records)]
        self.assertEqual(found, [16, None, (9, 4)])
        with self.assertRaises(Contradiction) as caught:
            lowest(10, 2, [(0, 5), (3, 4)])
        self.assertEqual((caught.exception.first, caught.exception.second), (0, 1))

    def test_rooms(self):
        room = Room(Road(10, "s:0+3 4"))
        found = [room.plan(0, ((6, 3),), 15), room.arrival(13), room.shift(0, 5, 30), room.changes[1]]
        self.assertEqual(found + [room.signal_at(0, 29)], [1, 20, ((1, 3),), (30, 0, ((1, 3),)), ((6, 3),)])
        found = [room.preview(("drop", 0, 15), ("plan", 0, ((2, 1),), 40)), room.undo(), len(room), room.log()]
        self.assertEqual(found, [[((6, 3),), 2], None, 1, ["plan"]])
        self.assertEqual(ClockRoom(Road(10, "5"), 7).advance(3), 10)

    def test_console(self):
        console = Console()
        rows = ["road 10 s:0+3,5+3 5", "at 3", "drive -1", "runs", "free", "laps 3 2"]
        self.assertEqual([console.execute(row) for row in rows], ["ok", "10", "0 -1 0", "0 2 5;5 7 10", "5;0 2", "15"])
        rows = ["plan 0 6+3 15", "at 13", "changes", "undo", "changes"]
        self.assertEqual([console.execute(row) for row in rows], ["1", "21", "15 0 6+3", "ok", "-"])


if __name__ == "__main__":
    unittest.main()
