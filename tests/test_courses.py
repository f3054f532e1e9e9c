"""Section 9 of the interface: courses."""
import random
import unittest
from itertools import combinations_with_replacement

from greenroads.courses import Course, breaks, course_difference, course_of, greatest_loss, settled_from
from greenroads.errors import InvalidParts
from greenroads.passages import Passage, pass_of, travel_of
from tests.course_model import (
    HIGH, LOW, chance_parts, chance_untils, drawn_out_course, drawn_out_start, in_one_passage, model_breaks, value_of)
from tests.model import all_tables, chance_table, great_passage, near_edges, passage_of

GREAT = 10 ** 30
OLD, NEW = Passage(10, ((0, 2, 4),)), Passage(10, ((6, 8, 10),))
ROAD = ((12, OLD), (15, 20), (None, NEW))


def some_parts(seed, many, cycles=(1, 2, 3, 5, 7)):
    source = random.Random(seed)
    for _ in range(many):
        cycle = source.choice(cycles)
        yield source, cycle, chance_parts(source, cycle, chance_untils(source))


def pairs_of_courses(seed, many):
    for source, cycle, parts in some_parts(seed, many):
        others = chance_parts(source, cycle, chance_untils(source))
        yield cycle, parts, others, Course(cycle, parts), Course(cycle, others)


def row_of(call, low=LOW, high=HIGH):
    return [call(start) for start in range(low, high)]


class SmallCourses(unittest.TestCase):
    def test_arrivals_and_parts(self):
        for _, cycle, parts in some_parts(141, 300):
            course = Course(cycle, parts)
            wanted = [value_of(parts, start) for start in range(LOW, HIGH)]
            self.assertEqual(row_of(course), wanted)
            self.assertEqual(row_of(lambda start, told=course.parts: value_of(told, start)), wanted)
            self.assertLessEqual(len(course.parts), len(parts))
            self.assertIsInstance(course.parts, tuple)
            self.assertTrue(Course(cycle, course.parts) == course)
            for start in (-10 ** 99, 10 ** 99):
                self.assertEqual(course(start), value_of(parts, start))

    def test_put_together(self):
        for _, _, _, one, other in pairs_of_courses(142, 200):
            self.assertEqual(row_of(one + other), [other(one(start)) for start in range(LOW, HIGH)])
            self.assertEqual(row_of(one | other), [min(one(start), other(start)) for start in range(LOW, HIGH)])
            self.assertEqual(row_of(one & other), [max(one(start), other(start)) for start in range(LOW, HIGH)])
            for course in (one + other, one | other, one & other):
                self.assertTrue(Course(course.cycle, course.parts) == course)

    def test_breaks(self):
        for cycle, _, _, one, other in pairs_of_courses(143, 60):
            for course in (one, one + other, one | other, one & other):
                self.assertEqual(breaks(course), model_breaks(course, cycle))

    def test_the_model_of_breaks(self):
        # Arrivals are those of some passage exactly if they are those of one of all of them.
        for cycle in (1, 2, 3):
            tables = [table for begin in range(3) for table in all_tables(cycle, (begin,))]
            for many in range(1, 2 * cycle + 2):
                possible = {tuple(table(start) for start in range(many)) for table in tables}
                for row in combinations_with_replacement(range(3 * cycle + 3), many):
                    if row[0] < 3:
                        self.assertIs(in_one_passage(list(row), cycle), row in possible)

    def test_settled_from(self):
        for cycle, _, _, one, other in pairs_of_courses(145, 150):
            for course in (one, one + other, one | other, one & other):
                found, last = settled_from(course), course.parts[-1][1]
                if isinstance(last, int):
                    self.assertIsNone(found)
                    continue
                start, passage = found
                self.assertEqual([type(start), type(passage)], [int, Passage])
                apart = [at for at in range(0, HIGH) if course(at) != passage(at)]
                self.assertEqual(start, max(apart) + 1 if apart else 0)

    def test_differences_and_losses(self):
        for _, _, _, one, other in pairs_of_courses(146, 200):
            for first, second in ((one, other), (one, one + other), (one | other, one), (one, one), (one, one & other)):
                rows = [first(start) - second(start) for start in range(HIGH)]
                apart = [start for start, row in enumerate(rows) if row != 0]
                self.assertEqual(course_difference(first, second), apart[0] if apart else None)
                if isinstance(second.parts[-1][1], int) and not isinstance(first.parts[-1][1], int):
                    self.assertIsNone(greatest_loss(first, second))
                else:
                    self.assertEqual(greatest_loss(first, second), (max(rows), rows.index(max(rows))))

    def test_equality(self):
        for cycle, parts, others, one, other in pairs_of_courses(147, 200):
            self.assertIs(one == other, row_of(one) == row_of(other))
            self.assertIs(one == Course(cycle, parts), True)
            self.assertIs(one | other == other | one, True)
            self.assertIs((one & other) | one == one, True)
            self.assertIs((one + other) + one == one + (other + one), True)
            # Cut in more parts it is the same one.
            until = 7
            cut = [part for part in parts if part[0] is not None and part[0] < until]
            cut += [(until, parts[len(cut)][1])]
            cut += [part for part in parts if part[0] is None or part[0] > until]
            self.assertIs(Course(cycle, tuple(cut)) == one, True)

    def test_equality_with_other_values(self):
        course = course_of(OLD)
        for value in (OLD, course.parts, 10, None, "course", course_of(NEW), course_of(Passage(20, ((0, 2, 4),)))):
            self.assertIs(course == value, False)
            self.assertIs(course != value, True)
        # They differ below 0 alone.
        self.assertIs(Course(10, ((-1, -50), (None, OLD))) == Course(10, ((-1, -51), (None, OLD))), False)

    def test_course_of(self):
        for passage in (OLD, travel_of(10, -3), travel_of(1, 0), pass_of(GREAT, ((0, 1),))):
            course = course_of(passage)
            self.assertEqual([course.cycle, breaks(course), len(course.parts)], [passage.cycle, [], 1])
            self.assertTrue(settled_from(course)[1] == passage)
            self.assertEqual(settled_from(course)[0], 0)
            for start in near_edges(passage) + [10 ** 99]:
                self.assertEqual(course(start), passage(start))

    def test_a_course_stays_as_it_is(self):
        course = Course(10, ROAD)
        told = dict(vars(course))
        breaks(course).append(7)
        for _ in range(2):
            self.assertEqual([breaks(course), settled_from(course)[0], greatest_loss(course, course_of(OLD))],
                             [[12], 13, (6, 19)])
        self.assertEqual([course.cycle, course(15)], [10, 20])
        self.assertEqual(vars(course), told)


class KnownCourses(unittest.TestCase):
    def test_one_part_of_an_integer(self):
        course = Course(10, ((None, 7),))
        self.assertEqual([course(-10 ** 99), course(10 ** 99), breaks(course), settled_from(course)], [7, 7, [], None])
        self.assertEqual([greatest_loss(course, course), greatest_loss(course, course_of(OLD))], [(0, 0), (3, 0)])
        self.assertIsNone(greatest_loss(course_of(OLD), course))
        self.assertEqual([course_difference(course, course_of(OLD)), course_difference(course, course)], [0, None])
        self.assertIs(course == Course(10, ((3, 7), (8, 7), (None, 7))), True)

    def test_a_stretch_of_one_arrival_just_as_long_as_a_cycle(self):
        # From 1 to 10 all arrive at 20, which a passage does, too; from 1 to 11 no passage does.
        for until, wanted in [(9, [0]), (10, [0]), (11, [0, 11]), (12, [0, 12])]:
            course = Course(10, ((0, 5), (until, 20), (None, Passage(10, ((0, 0, 10),)))))
            self.assertEqual(breaks(course), wanted)
            self.assertEqual(breaks(course), model_breaks(course, 10, -10, 60))

    def test_parts_that_could_be_fewer(self):
        row = tuple((until, OLD) for until in range(-30, 30, 4)) + ((None, OLD),)
        self.assertIs(Course(10, row) == course_of(OLD), True)
        self.assertEqual(breaks(Course(10, row)), [])
        # One passage has the arrivals of two others, each of which holds for half of a cycle.
        parts = ((0, OLD), (5, travel_of(10, 10)), (10, travel_of(10, 11)), (None, travel_of(10, 50)))
        course = Course(10, parts)
        self.assertEqual([breaks(course), len(course.parts)], [[0, 10], 3])
        self.assertEqual(breaks(course), model_breaks(course, 10))

    def test_just_falling_and_just_not(self):
        for parts in [((3, OLD), (None, 14)), ((3, OLD), (None, Passage(10, ((4, 4, 14),)))), ((3, 14), (None, OLD)),
                      ((3, 14), (None, 14)), ((-7, OLD), (None, OLD)), ((2, 6), (3, 6), (None, 6))]:
            self.assertEqual(row_of(Course(10, parts)), sorted(row_of(Course(10, parts))))
        for parts in [((3, OLD), (None, 13)), ((3, OLD), (None, Passage(10, ((4, 4, 13),)))), ((3, 15), (None, OLD)),
                      ((3, 14), (None, 13)), ((-7, OLD), (-6, 3), (None, OLD)), ((2, 6), (3, 5), (None, 6))]:
            self.assertRaises(InvalidParts, Course, 10, parts)
        for until in (10 ** 99, -10 ** 99, 3 * GREAT):
            early = pass_of(10, ((0, 1),))
            self.assertEqual(Course(10, ((until, early), (None, early(until)))).parts[-1][0], None)
            self.assertRaises(InvalidParts, Course, 10, ((until, early), (None, early(until) - 1)))

    def test_the_last_part_is_settled_earlier_than_it_breaks(self):
        # The first part goes on as long as it can, and the last passage begins as early as it can.
        one, other = Passage(10, ((0, 2, 4),)), Passage(10, ((0, 2, 4), (5, 5, 9)))
        course = Course(10, ((10, one), (None, other)))
        self.assertEqual([breaks(course), settled_from(course)[0]], [[12], 6])

    def test_far_away(self):
        for turns in (0, 10 ** 60, -10 ** 60):
            parts = tuple((None if until is None else until + turns, what + turns if isinstance(what, int) else what)
                          for until, what in ROAD)
            course = Course(10, parts)
            self.assertEqual([course(start + turns) - turns for start in (12, 13, 16)], [16, 20, 20])
            self.assertEqual(breaks(course), [12 + turns])
            self.assertEqual(settled_from(course)[0], max(0, 13 + turns))
            self.assertEqual(course_difference(course, course_of(OLD)), 13 + turns if turns >= 0 else 0)
            self.assertEqual(greatest_loss(course, course_of(OLD)), (6, 19 + turns) if turns >= 0 else (6, 0))


class GreatCourses(unittest.TestCase):
    """Cycles up to 10 ** 30: small courses of which each start is drawn out, and courses of any numbers."""

    def test_drawn_out(self):
        source = random.Random(148)
        for _, cycle, parts in some_parts(149, 120, (1, 3, 5, 10)):
            times = source.choice([7, 10 ** 20 + 39, GREAT // cycle])
            others = chance_parts(source, cycle, chance_untils(source))
            one, other = Course(cycle, parts), Course(cycle, others)
            great, great_other = drawn_out_course(parts, cycle, times), drawn_out_course(others, cycle, times)
            for small, large in [(one, great), (one | other, great | great_other), (one & other, great & great_other),
                                 (one + other, great + great_other)]:
                for start in range(-30, 40, 3):
                    arrival = small(start) * times
                    self.assertEqual([large(start * times), large((start - 1) * times + 1)], [arrival, arrival])
                self.assertEqual(breaks(large), [until * times for until in breaks(small)])
                found, wanted = settled_from(large), settled_from(small)
                self.assertEqual(found and found[0], wanted and drawn_out_start(wanted[0], times))
            found, wanted = course_difference(great, great_other), course_difference(one, other)
            self.assertEqual(found, None if wanted is None else drawn_out_start(wanted, times))
            found, wanted = greatest_loss(great, great_other), greatest_loss(one, other)
            self.assertEqual(found, wanted and (wanted[0] * times, drawn_out_start(wanted[1], times)))

    def chance_great(self, source, cycle, many):
        """Parts with passages of any numbers, whose untils are some cycles or much more apart."""
        untils, at = [], source.randint(-10 ** 40, 10 ** 40)
        for _ in range(many):
            untils.append(at)
            at += source.choice([1, source.randint(1, cycle), source.randint(1, 5 * cycle), 10 ** 40])
        parts, late = [], None
        for until in [*untils, None]:
            what = source.choice([great_passage(source, cycle, source.choice([1, 5, 40])), at])
            if parts:
                begin = parts[-1][0] + 1
                late = value_of(parts, parts[-1][0])
                early = what if isinstance(what, int) else what(begin)
                ticks = late - early + source.choice([0, 0, source.randint(0, cycle)])
                what = what + ticks if isinstance(what, int) else what + travel_of(cycle, ticks)
            parts.append((until, what))
        return tuple(parts)

    def test_any_numbers(self):
        source = random.Random(150)
        for _ in range(60):
            cycle = source.choice([GREAT, GREAT - 1, 10 ** 9 + 7])
            parts, others = [self.chance_great(source, cycle, source.randint(0, 6)) for _ in range(2)]
            one, other = Course(cycle, parts), Course(cycle, others)
            starts = [until + beside for until, _ in [*parts[:-1], *others[:-1]] for beside in (-cycle, -1, 0, 1, cycle)]
            starts += [source.randint(-10 ** 41, 10 ** 41) for _ in range(20)]
            behind, sooner, both = one + other, one | other, one & other
            for start in starts:
                self.assertEqual([one(start), other(start)], [value_of(parts, start), value_of(others, start)])
                self.assertEqual(behind(start), other(one(start)))
                self.assertEqual([sooner(start), both(start)], sorted([one(start), other(start)]))
            self.check_differences(one, other, starts)

    def check_differences(self, one, other, starts):
        later = [start for start in starts if start >= 0]
        found = course_difference(one, other)
        if found is not None:
            self.assertNotEqual(one(found), other(found))
            self.assertTrue(found == 0 or one(found - 1) == other(found - 1))
        self.assertTrue(all(one(start) == other(start) for start in later if found is None or start < found))
        worst = greatest_loss(one, other)
        if worst is not None:
            self.assertEqual(one(worst[1]) - other(worst[1]), worst[0])
            self.assertTrue(all(one(start) - other(start) <= worst[0] for start in later))
            self.assertTrue(all(one(start) - other(start) < worst[0] for start in later if start < worst[1]))
        settled = settled_from(one)
        if settled is not None:
            start, passage = settled
            self.assertTrue(start == 0 or one(start - 1) != passage(start - 1))
            self.assertTrue(all(one(at) == passage(at) for at in later if at >= start))

    def test_many_parts(self):
        source = random.Random(151)
        for cycle in (10, GREAT):
            untils = sorted(source.sample(range(-10 ** 4, 10 ** 4), 499))
            untils = [until * (cycle // 10) for until in untils]
            parts, ticks = [], 0
            for until in [*untils, None]:
                ticks += source.randint(1, 3) * cycle
                parts.append((until, pass_of(cycle, ((source.randrange(cycle), cycle // 3),)) + travel_of(cycle, ticks)))
            course = Course(cycle, tuple(parts))
            self.assertLessEqual(len(breaks(course)), 499)
            for start in [until + beside for until in untils for beside in (0, 1)]:
                self.assertEqual(course(start), value_of(parts, start))
            twice = course + course
            for start in source.sample(untils, 50):
                self.assertEqual(twice(start), course(course(start)))
            self.assertIs(course | course == course, True)

    def test_passages_with_many_runs(self):
        source = random.Random(152)
        passages = [great_passage(source, GREAT, 400) for _ in range(3)]
        parts = ((0, passages[0]), (GREAT * 5, passages[1] + travel_of(GREAT, 10 * GREAT)),
                 (None, passages[2] + travel_of(GREAT, 20 * GREAT)))
        course = Course(GREAT, parts)
        twice = course + course
        for start in near_edges(passages[0])[::20] + near_edges(passages[1])[::20] + [GREAT * 5, GREAT * 5 + 1]:
            for ticks in (-GREAT, 0, 4 * GREAT, 9 * GREAT):
                self.assertEqual(course(start + ticks), value_of(parts, start + ticks))
                self.assertEqual(twice(start + ticks), course(course(start + ticks)))

    def test_chance_tables_in_one_course(self):
        source = random.Random(153)
        for _ in range(40):
            cycle = source.choice([13, 40])
            tables = [chance_table(source, cycle, source.choice([100, 500, 900])) for _ in range(4)]
            parts, late = [], None
            for number, table in enumerate(tables):
                until = None if number == 3 else number * source.randint(1, 2 * cycle) + number * cycle
                ticks = 0 if late is None else max(0, late - table(parts[-1][0] + 1))
                parts.append((until, passage_of(table) + travel_of(cycle, ticks)))
                late = None if until is None else parts[-1][1](until)
            if [until for until, _ in parts[:-1]] != sorted({until for until, _ in parts[:-1]}):
                continue
            course = Course(cycle, tuple(parts))
            self.assertEqual(breaks(course), model_breaks(course, cycle, -3 * cycle, 14 * cycle))


if __name__ == "__main__":
    unittest.main()
