"""Section 10 of the interface: changes of the signals' plans."""
import random
import unittest

from greenroads.courses import breaks, course_difference, course_of, greatest_loss, settled_from
from greenroads.errors import TooLarge
from greenroads.nets import Net
from greenroads.plans import (
    arrival_with, course_with, drive_with, first_touched, net_courses, net_earliest, worst_loss)
from greenroads.roads import Road, drive
from tests.net_model import chance_streets, model_arrivals
from tests.plan_model import (
    chance_changes, chance_greens, chance_net_changes, changed_arrival, changed_drive, many_pairs)
from tests.road_model import chance_signal, chance_text, model_tree

GREAT = 10 ** 30
# Roads whose signals are passed once and several times, near one another and far, in convoys and in choices.
TEXTS = [
    "s:0+3 4", "s:0+1", "( s:0+3 4 )2", "( s:0+3 0 )3", "s:0+3 s:4+3 s:8+1", "s:0+3 25 s:1+4", "{ s:0+3 4 | 9 }",
    "< s:0+3 4 & 9 >", "{ s:0+3 4 | s:5+2 3 | 12 } s:1+1", "< s:0+3 4 & s:5+2 3 & > s:1+1", "( { s:0+3 2 | s:5+2 } )2",
    "{ < s:0+1 & s:5+1 3 > 2 | 7 s:2+2 }", "3 ( s:9+2,4+1 6 )3 s:0+5", "5", ""]
START_LOW, START_HIGH = -70, 75


def all_plans(seed, many, most=6):
    source = random.Random(seed)
    for text in TEXTS:
        for number in (0, 1, 3):
            road = Road(10, text)
            yield road, chance_changes(source, road, number)
    for _ in range(many):
        cycle = source.choice([1, 2, 3, 5, 10])
        road = Road(cycle, chance_text(source, cycle, source.randint(1, 5), source.choice([0, 1, 2])))
        yield road, chance_changes(source, road, source.randint(0, most), high=source.choice([0, 20, 60]))


def drives_of(road, changes, starts):
    tree = model_tree(road.text)
    return [changed_drive(road.cycle, tree, changes, start) for start in starts]


class SmallPlans(unittest.TestCase):
    def test_arrivals(self):
        starts = range(START_LOW, START_HIGH)
        for road, changes in all_plans(161, 150):
            course, drives = course_with(road, changes), drives_of(road, changes, starts)
            for start, (seen, arrival) in zip(starts, drives):
                self.assertEqual(course(start), arrival)
                if start % 7 == 0:
                    self.assertEqual([arrival_with(road, changes, start), drive_with(road, changes, start)],
                                     [arrival, seen])

    def test_drives(self):
        for road, changes in all_plans(162, 150):
            for start in range(-15, 45):
                seen, arrival = changed_drive(road.cycle, model_tree(road.text), changes, start)
                self.assertEqual([drive_with(road, changes, start), arrival_with(road, changes, start)],
                                 [seen, arrival])

    def test_first_touched_and_worst_loss(self):
        touched = 0
        for road, changes in all_plans(163, 200):
            # All changes are over at 60, and behind them all comes again.
            rows = [arrival - road(start) for start, (_, arrival) in
                    enumerate(drives_of(road, changes, range(90)))]
            apart = [start for start, row in enumerate(rows) if row != 0]
            self.assertEqual(first_touched(road, changes), apart[0] if apart else None)
            self.assertEqual(worst_loss(road, changes), (max(rows), rows.index(max(rows))))
            touched += len(apart) > 0
        self.assertGreater(touched, 80)

    def test_they_are_those_of_the_courses(self):
        for road, changes in all_plans(164, 60):
            course, without = course_with(road, changes), course_of(road.passage())
            self.assertEqual(first_touched(road, changes), course_difference(course, without))
            self.assertEqual(worst_loss(road, changes), greatest_loss(course, without))

    def test_breaks_of_plain_roads(self):
        source = random.Random(165)
        most = 0
        for _ in range(200):
            cycle = source.choice([3, 5, 10])
            road = Road(cycle, chance_text(source, cycle, source.randint(1, 8), 0))
            changes = chance_changes(source, road, source.randint(1, 12), high=source.choice([10, 100, 1000]))
            many = len(breaks(course_with(road, changes)))
            self.assertLessEqual(many, 2 * many_pairs(road, changes))
            most = max(most, many)
        self.assertGreater(most, 8)

    def test_without_changes(self):
        for road, _ in all_plans(166, 40):
            self.assertTrue(course_with(road, []) == course_of(road.passage()))
            self.assertEqual([first_touched(road, []), worst_loss(road, [])], [None, (0, 0)])
            for start in (-3, 0, 7, 10 ** 99):
                self.assertEqual([arrival_with(road, [], start), drive_with(road, [], start)],
                                 [road(start), drive(road, start)])

    def test_changes_that_change_nothing(self):
        road = Road(10, "s:0+3,5+2 4 ( s:8+4 1 )2")
        changes = [(-5, 0, ((5, 2), (0, 3))), (7, 0, ((0, 3), (1, 2), (5, 2))), (7, 1, ((8, 1), (9, 3)))]
        self.assertTrue(course_with(road, changes) == course_of(road.passage()))
        self.assertEqual([first_touched(road, changes), worst_loss(road, changes)], [None, (0, 0)])

    def test_several_changes_at_one_moment(self):
        road = Road(10, "s:0+3 4 s:0+3 4")
        changes = [(15, 0, ((6, 1),)), (15, 1, ((2, 1),))]
        self.assertEqual([drive_with(road, changes, 13), drive_with(road, changes, 7)],
                         [[(0, 13, 16), (1, 20, 22)], [(0, 7, 10), (1, 14, 22)]])

    def test_changes_while_a_car_waits(self):
        road = Road(10, "s:0+1")
        # From 1 on it waits for 10; but at 4 the signal is to be green at 8, and at 8 at 6.
        changes = [(4, 0, ((8, 1),)), (8, 0, ((6, 1),)), (30, 0, ((0, 10),))]
        self.assertEqual([arrival_with(road, changes, start) for start in (0, 1, 3, 7, 9, 16, 17, 26, 27)],
                         [0, 16, 16, 16, 16, 16, 26, 26, 30])
        # At the moment of a change the new greens hold.
        self.assertEqual(arrival_with(road, [(10, 0, ((1, 1),))], 5), 11)
        self.assertEqual(arrival_with(road, [(11, 0, ((1, 1),))], 5), 10)
        self.assertEqual(arrival_with(road, [(9, 0, ((9, 1),))], 5), 9)

    def test_far_away(self):
        for turns in (10 ** 60, -10 ** 60):
            road, changes = Road(10, "s:0+3 4"), [(15 + turns, 0, ((6, 3),))]
            course = course_with(road, changes)
            self.assertEqual([course(start + turns) - turns for start in (12, 13, 16, 17)], [16, 20, 20, 21])
            self.assertEqual([arrival_with(road, changes, 13 + turns), course(13 + turns)], [20 + turns] * 2)
            self.assertEqual(first_touched(road, changes), 13 + turns if turns > 0 else 0)
            self.assertEqual(worst_loss(road, changes), (6, 19 + turns) if turns > 0 else (6, 0))

    def test_arguments_stay_as_they_are(self):
        road, changes = Road(10, "( s:0+3 4 )2"), [(15, 0, ((6, 3),)), (25, 0, ((1, 3),))]
        told, rows = dict(vars(road)), list(changes)
        course = course_with(road, changes)
        arrivals = [course(start) for start in range(40)]
        drive_with(road, changes, 3).clear()
        self.assertEqual([drive_with(road, changes, 3), changes], [changed_drive(10, model_tree(road.text), rows, 3)[0],
                                                                   rows])
        changes.clear()
        self.assertEqual([course(start) for start in range(40)], arrivals)
        self.assertEqual(vars(road), told)


class LimitsOfPlans(unittest.TestCase):
    def test_pairs(self):
        road = Road(10, "( s:0+3 4 )5 ( s:5+3 )20 s:1+9")
        changes = [(moment, 0, ((moment % 10, 3),)) for moment in range(20)]
        self.assertEqual(course_with(road, changes)(30), changed_arrival(10, road.text, changes, 30))
        for start in (-40, 0, 15):
            self.assertEqual(arrival_with(road, changes, start), changed_arrival(10, road.text, changes, start))
        changes = [(moment, 1, ((moment % 10, 3),)) for moment in range(5)]
        self.assertEqual(course_with(road, changes)(-3), changed_arrival(10, road.text, changes, -3))
        # 101, 105 and 120 of them.
        for more in ([(99, 2, ((0, 1),))], [(99, 0, ((0, 1),))], [(99, 1, ((0, 1),))]):
            for call in (course_with, first_touched, worst_loss):
                self.check_limit(100, call, road, changes + more)
            for call in (arrival_with, drive_with):
                # It comes ahead of the errors of further parameters.
                for start in (3, None):
                    self.check_limit(100, call, road, changes + more, start)
        net = Net(10, [("a", "b", "( s:0+3 4 )5 1"), ("a", "c", "( s:5+3 )20 1"), ("c", "a", "s:0+3 1")])
        changes = [(moment, 1, 0, ((moment % 10, 3),)) for moment in range(5)]
        self.assertEqual(net_earliest(net, changes, "a", 3, "c"), net_courses(net, changes, "a")["c"](3))
        changes.append((99, 2, 0, ((0, 1),)))
        self.check_limit(100, net_courses, net, changes, None)
        self.check_limit(100, net_earliest, net, changes, None, None, None)

    def check_limit(self, limit, call, *arguments):
        with self.assertRaises(TooLarge) as caught:
            call(*arguments)
        self.assertEqual(caught.exception.limit, limit)

    def test_a_hundred_pairs_in_great_cycles(self):
        source = random.Random(167)
        for green in (GREAT // 2, GREAT - GREAT // 1000):
            for span in (GREAT, 1000 * GREAT, 10 ** 40):
                pairs = [f"s:{source.randrange(GREAT)}+{green} {source.randrange(GREAT // 40)}" for _ in range(40)]
                road = Road(GREAT, f"( {' '.join(pairs)} )5")
                rows = {(source.randrange(span), source.randrange(40)) for _ in range(20)}
                changes = [(moment, index, ((source.randrange(GREAT), green),)) for moment, index in sorted(rows)]
                course = course_with(road, changes)
                self.assertLessEqual(len(breaks(course)), 2 * many_pairs(road, changes))
                starts = [until + beside for until in breaks(course) for beside in (0, 1)]
                starts += [source.randint(-GREAT, span) for _ in range(10)]
                for start in source.sample(starts, min(25, len(starts))):
                    self.assertEqual(course(start), arrival_with(road, changes, start))


class GreatPlans(unittest.TestCase):
    def test_drawn_out(self):
        source = random.Random(168)
        for _ in range(80):
            cycle, times = source.choice([3, 10]), source.choice([7, 10 ** 15, 4 * 10 ** 28])
            seed, words, depth = source.randrange(10 ** 9), source.randint(1, 5), source.choice([0, 2])
            small = Road(cycle, chance_text(random.Random(seed), cycle, words, depth))
            great = Road(cycle * times, chance_text(random.Random(seed), cycle, words, depth, times))
            many = source.randint(1, 6)
            changes = chance_changes(random.Random(seed), small, many)
            great_changes = chance_changes(random.Random(seed), great, many, unit=times)
            course = course_with(great, great_changes)
            for start in range(-60, 70, 3):
                seen, arrival = changed_drive(cycle, model_tree(small.text), changes, start)
                rows = [(index, came * times, passed * times) for index, came, passed in seen]
                self.assertEqual([course(start * times), drive_with(great, great_changes, start * times)],
                                 [arrival * times, rows])
            # Between the multiples the course goes on as single cars do.
            for start in [until + beside for until in breaks(course) for beside in (-1, 0, 1, 2)]:
                self.assertEqual(course(start), arrival_with(great, great_changes, start))

    def test_any_numbers(self):
        source = random.Random(169)
        for _ in range(80):
            cycle = source.choice([GREAT, 10 ** 9 + 7, 30])
            road = Road(cycle, chance_text(source, cycle, source.randint(1, 8), source.choice([0, 1, 3])))
            changes = chance_changes(source, road, source.randint(1, 8), -cycle, source.choice([1, 5, 1000]) * cycle)
            if many_pairs(road, changes) > 100:
                continue
            course, without = course_with(road, changes), course_of(road.passage())
            starts = [until + beside for until in breaks(course) for beside in (0, 1)]
            starts += [source.randint(-3 * cycle, 6 * cycle) for _ in range(20)]
            for start in starts:
                self.assertEqual(course(start), arrival_with(road, changes, start))
            first, (worst, start) = first_touched(road, changes), worst_loss(road, changes)
            self.assertEqual(arrival_with(road, changes, start) - road(start), worst)
            later = [start for start in starts if start >= 0]
            self.assertTrue(all(course(start) - without(start) <= worst for start in later))
            self.assertTrue(all(course(start) == without(start) for start in later if first is None or start < first))
            if first is not None:
                self.assertNotEqual(course(first), without(first))

    def test_great_travels(self):
        # Between the two passes lie many cycles, so that the change touches starts far ahead of it.
        road, changes = Road(10, f"s:0+3 {GREAT} s:0+3"), [(GREAT, 1, ((6, 3),))]
        course = course_with(road, changes)
        self.assertEqual([course(0), course(-1), course(-8), course(-9)],
                         [GREAT + 6, GREAT + 6, GREAT - 8, GREAT - 9])
        self.assertEqual([first_touched(road, changes), worst_loss(road, changes)], [0, (6, 0)])
        self.assertEqual([breaks(course), settled_from(course)[0]], [[-8], 0])
        for start in range(-30, 30):
            self.assertEqual(course(start), arrival_with(road, changes, start))


def roads_of(net):
    return [Road(net.cycle, text) for _, _, text in net.streets]


def model_net(net, changes, begin, moment):
    """The earliest arrivals at all places."""
    rows = [[(begun, index, signal) for begun, changed, index, signal in changes if changed == street]
            for street in range(len(net.streets))]
    trees = [model_tree(text) for _, _, text in net.streets]
    return model_arrivals(net.streets, lambda index, start: changed_drive(
        net.cycle, trees[index], rows[index], start)[1], begin, moment)


class Nets(unittest.TestCase):
    def some_nets(self, seed, many, depth=1):
        source = random.Random(seed)
        while many > 0:
            cycle = source.choice([1, 3, 5, 10])
            net = Net(cycle, chance_streets(source, cycle, source.choice([2, 3, 5]), source.randint(1, 8), depth))
            changes = chance_net_changes(source, roads_of(net), source.randint(1, 8))
            if changes:
                many -= 1
                yield source, net, changes

    def test_earliest_arrivals(self):
        for source, net, changes in self.some_nets(170, 60):
            begin = source.choice(net.places)
            courses = net_courses(net, changes, begin)
            for start in range(-40, 60, 3):
                arrivals = model_net(net, changes, begin, start)
                self.assertEqual(list(courses), sorted(arrivals))
                self.assertEqual({goal: course(start) for goal, course in courses.items()}, arrivals)
                for goal in net.places:
                    self.assertEqual(net_earliest(net, changes, begin, start, goal), arrivals.get(goal))

    def test_breaks(self):
        for source, net, changes in self.some_nets(171, 120, 0):
            pairs = sum(roads_of(net)[street].passes.count(index) for _, street, index, _ in changes)
            for begin in net.places:
                for course in net_courses(net, changes, begin).values():
                    self.assertLessEqual(len(breaks(course)), 4 * pairs)

    def test_without_changes(self):
        for source, net, _ in self.some_nets(172, 20):
            for begin in net.places:
                found, wanted = net_courses(net, [], begin), net.passages(begin)
                self.assertEqual(list(found), list(wanted))
                for goal in found:
                    self.assertTrue(found[goal] == course_of(wanted[goal]))
                    self.assertEqual(net_earliest(net, [], begin, 7, goal), net.earliest(begin, 7, goal))

    def test_several_streets_at_one_moment(self):
        net = Net(10, [("a", "b", "s:0+3 4"), ("a", "b", "s:0+3 3"), ("b", "c", "s:0+3 1"), ("d", "a", "1")])
        changes = [(15, 0, 0, ((6, 3),)), (15, 1, 0, ((8, 1),)), (15, 2, 0, ((1, 1),))]
        self.assertEqual([net_earliest(net, changes, "a", moment, "b") for moment in (10, 13, 17)], [13, 20, 21])
        self.assertEqual([net_earliest(net, changes, "a", moment, "c") for moment in (5, 13)], [22, 22])
        self.assertEqual([net_earliest(net, changes, "a", 3, "d"), net_earliest(net, changes, "c", 3, "c")], [None, 3])
        self.assertEqual(list(net_courses(net, changes, "a")), ["a", "b", "c"])
        self.assertTrue(net_courses(net, changes, "a")["a"] == course_of(Road(10, "").passage()))

    def test_great_nets(self):
        source = random.Random(173)
        names = "abcdefghijkl"
        for short, span in [(GREAT // 1000, GREAT), (GREAT // 30, 100 * GREAT), (GREAT // 2, 10 ** 40)]:
            streets = [(begin, end) for begin, end in zip(names, names[1:] + "a")]
            streets += [(source.choice(names), source.choice(names)) for _ in range(18)]
            net = Net(GREAT, [(begin, end, " ".join(
                f"s:{source.randrange(GREAT)}+{GREAT - short} {source.randint(1, GREAT // 100)}" for _ in range(6)))
                for begin, end in streets])
            rows = {(source.randrange(span), source.randrange(30), source.randrange(6)) for _ in range(20)}
            changes = [(*row, ((source.randrange(GREAT), GREAT // 3),)) for row in sorted(rows)]
            courses = net_courses(net, changes, "a")
            for goal, course in source.sample(list(courses.items()), 5):
                self.assertLessEqual(len(breaks(course)), 80)
                starts = [until + beside for until in breaks(course) for beside in (0, 1)]
                for start in source.sample(starts, min(8, len(starts))) + [source.randint(-GREAT, span)]:
                    self.assertEqual(course(start), net_earliest(net, changes, "a", start, goal))

    def test_many_routes(self):
        # 3 ** 10 routes, and each change touches most of them.
        source = random.Random(174)
        names = "abcdefghijk"
        for unit in (1, GREAT // 100):
            streets = [(begin, end, f"{chance_signal(source, 100, unit)} {source.randint(1, 40) * unit}")
                       for begin, end in zip(names, names[1:]) for _ in range(3)]
            net = Net(100 * unit, streets)
            rows = {(source.randint(0, 900) * unit, source.randrange(30), 0) for _ in range(20)}
            changes = [(*row, chance_greens(source, 100, unit)) for row in sorted(rows)]
            for goal, course in net_courses(net, changes, "a").items():
                self.assertLessEqual(len(breaks(course)), 80)
                for start in range(-300, 900, 41):
                    self.assertEqual(course(start * unit), net_earliest(net, changes, "a", start * unit, goal))


if __name__ == "__main__":
    unittest.main()
