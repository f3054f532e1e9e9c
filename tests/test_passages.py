"""Section 3 of the interface: passages by themselves."""
import random
import unittest

from greenroads.passages import Passage, first_difference, first_later, gaps, pass_of, platoons, travel_of
from greenroads.signals import next_green
from tests.model import (
    Table, all_tables, chance_table, great_passage, is_one_form, model_first, model_gaps, model_latest, model_platoons,
    model_runs, near_edges, passage_of, table_of)

GREAT = 10 ** 30


def some_tables():
    for cycle in range(1, 6):
        yield from all_tables(cycle, (-cycle - 1, 0, 3))
    source = random.Random(11)
    for cycle in list(range(6, 40)) + [100, 333]:
        for steps in (30, 300, 700, 950):
            yield chance_table(source, cycle, steps)


def other_runs(source, runs, cycle):
    """The same runs parted, moved and turned: some are cut, and they begin anywhere in any cycle."""
    parts = []
    for first, last, arrival in runs:
        while first <= last:
            end = source.choice([first, last, source.randint(first, last)])
            parts.append((first, end, arrival))
            first, arrival = end + 1, arrival + end + 1 - first
    turn = source.randrange(len(parts))
    moved = [(first + cycle, last + cycle, arrival + cycle) for first, last, arrival in parts[:turn]]
    away = source.choice([0, 1, -1, 5, -10 ** 60]) * cycle
    return tuple((first + away, last + away, arrival + away) for first, last, arrival in parts[turn:] + moved)


class RunsAndCalls(unittest.TestCase):
    def test_against_tables(self):
        for table in some_tables():
            passage = passage_of(table)
            self.assertEqual(passage.cycle, table.cycle)
            self.assertEqual(passage.runs, model_runs(table))
            for start in range(-2 * table.cycle, 3 * table.cycle):
                self.assertEqual(passage(start), table(start))

    def test_starts_far_away(self):
        passage = Passage(10, ((2, 3, 5),))
        for turns in (10 ** 98, -10 ** 98, 10 ** 40, -10):
            arrivals = [passage(start + turns) - turns for start in range(0, 13)]
            self.assertEqual(arrivals, [5, 5, 5, 6] + [15] * 9)

    def test_durations_of_many_cycles(self):
        for ticks in (10 ** 99, -10 ** 99):
            passage = Passage(10, ((2, 3, 5 + ticks),))
            self.assertEqual([passage(-6), passage(3), passage(4)], [5 + ticks, 6 + ticks, 15 + ticks])
            self.assertEqual(passage.runs, ((2, 3, 5 + ticks),))

    def test_the_one_form(self):
        source = random.Random(12)
        for table in some_tables():
            passage = passage_of(table)
            for _ in range(3):
                again = Passage(table.cycle, other_runs(source, passage.runs, table.cycle))
                self.assertEqual(again.runs, passage.runs)
                self.assertTrue(again == passage)

    def test_all_moments_in_one_run(self):
        for runs in [((0, 9, 4),), ((3, 12, 7),), ((-7, 2, -3),), ((5, 6, 9), (7, 14, 11)), ((25, 34, 29),)]:
            self.assertEqual(Passage(10, runs).runs, ((0, 9, 4),))
        self.assertEqual(Passage(1, ((7, 7, 3),)).runs, ((0, 0, -4),))

    def test_runs_over_the_end_of_the_cycle(self):
        self.assertEqual(Passage(10, ((0, 1, 5), (8, 9, 13))).runs, ((8, 11, 13),))
        self.assertEqual(Passage(10, ((-2, 1, 3),)).runs, ((8, 11, 13),))
        self.assertEqual(Passage(10, ((9, 9, 9), (10, 11, 10), (14, 14, 14))).runs, ((4, 4, 4), (9, 11, 9)))
        self.assertEqual(Passage(10, ((0, 1, 5), (8, 9, 12))).runs, ((0, 1, 5), (8, 9, 12)))

    def test_followers_are_joined_only_where_starts_and_arrivals_follow(self):
        self.assertEqual(Passage(10, ((0, 1, 5), (2, 3, 7))).runs, ((0, 3, 5),))
        self.assertEqual(Passage(10, ((0, 1, 5), (2, 3, 8))).runs, ((0, 1, 5), (2, 3, 8)))
        self.assertEqual(Passage(10, ((0, 1, 5), (3, 4, 7))).runs, ((0, 1, 5), (3, 4, 7)))

    def test_great_cycles(self):
        runs = ((2, GREAT // 2, 6), (GREAT - 3, GREAT + 1, GREAT))
        passage = Passage(GREAT, runs)
        self.assertEqual(passage.runs, runs)
        self.assertEqual([passage(0), passage(1), passage(2), passage(-3)], [3, 4, 6, 0])
        self.assertEqual(passage(GREAT // 2), GREAT // 2 + 4)
        self.assertEqual(passage(GREAT // 2 + 1), GREAT)
        self.assertEqual(passage(10 ** 99 + 10), 10 ** 99 + 14)

    def test_five_hundred_runs_of_a_great_cycle(self):
        wide = GREAT // 500
        runs = tuple((at * wide, at * wide + wide // 3, at * wide + 7) for at in range(500))
        passage = Passage(GREAT, runs)
        self.assertEqual(passage.runs, runs)
        for at in (0, 1, 250, 498, 499):
            for turns in (0, -3, 10 ** 60):
                begin = at * wide + turns * GREAT
                self.assertEqual(passage(begin + wide // 3), begin + wide // 3 + 7)
                self.assertEqual(passage(begin + wide // 3 + 1), begin + wide + 7)
                self.assertEqual(passage(begin + wide - 1), begin + wide + 7)

    def test_great_cycles_by_their_runs(self):
        source = random.Random(13)
        for many in (1, 2, 3, 50, 400):
            passage = great_passage(source, GREAT, many)
            self.assertTrue(is_one_form(GREAT, passage.runs))
            for turns in (0, -GREAT, 10 ** 70):
                for (first, last, arrival), after in zip(passage.runs, passage.runs[1:]):
                    inside = source.randint(first, last)
                    self.assertEqual(passage(inside + turns), arrival + inside - first + turns)
                    behind = source.randint(last + 1, after[0])
                    self.assertEqual(passage(behind + turns), after[2] + turns)

    def test_returned_runs_may_be_passed_back(self):
        passage = great_passage(random.Random(14), GREAT, 400)
        self.assertEqual(Passage(passage.cycle, passage.runs).runs, passage.runs)


class Equality(unittest.TestCase):
    def test_passages(self):
        tables = list(all_tables(3, (0, 1)))
        for one in tables:
            for other in tables:
                self.assertIs(passage_of(one) == passage_of(other), one.row == other.row)
                self.assertIs(passage_of(one) != passage_of(other), one.row != other.row)

    def test_cycles(self):
        self.assertFalse(travel_of(10, 3) == travel_of(20, 3))
        self.assertFalse(Passage(10, ((0, 9, 0),)) == Passage(20, ((0, 19, 0),)))
        self.assertFalse(Passage(10, ((2, 3, 5),)) == Passage(11, ((2, 3, 5),)))

    def test_other_values(self):
        passage = Passage(10, ((2, 3, 5),))
        for value in [None, True, 5, "", (10, ((2, 3, 5),)), ((2, 3, 5),), [], {}, object(), Passage, len]:
            self.assertIs(passage == value, False)
            self.assertIs(passage != value, True)


class TravelsAndSignals(unittest.TestCase):
    def test_travels(self):
        for cycle in (1, 2, 10, GREAT):
            for ticks in (0, 1, 9, -4, 10 ** 99, -10 ** 99):
                passage = travel_of(cycle, ticks)
                self.assertEqual(passage.runs, ((0, cycle - 1, ticks),))
                self.assertEqual([passage(start) for start in (-3, 0, 17)], [ticks - 3, ticks, ticks + 17])

    def test_signals(self):
        source = random.Random(15)
        for _ in range(400):
            cycle = source.choice([1, 2, 3, 7, 20])
            signal = tuple((source.randrange(cycle), source.randint(1, source.choice([1, cycle])))
                           for _ in range(source.randint(1, 6)))
            passage = pass_of(cycle, signal)
            table = Table([next_green(cycle, signal, start) for start in range(cycle)])
            self.assertEqual(passage.runs, model_runs(table))
            self.assertEqual(table_of(passage).row, table.row)

    def test_signals_of_great_cycles(self):
        passage = pass_of(GREAT, ((GREAT - 5, 10), (5, 1), (GREAT // 2, 3)))
        self.assertEqual(passage.runs, ((GREAT // 2, GREAT // 2 + 2, GREAT // 2), (GREAT - 5, GREAT + 5, GREAT - 5)))
        self.assertEqual(pass_of(GREAT, ((7, GREAT),)).runs, ((0, GREAT - 1, 0),))


class Measures(unittest.TestCase):
    def test_platoons_and_gaps(self):
        for table in some_tables():
            passage = passage_of(table)
            self.assertEqual(platoons(passage), model_platoons(table))
            self.assertEqual(gaps(passage), model_gaps(table))

    def test_latest(self):
        for table in some_tables():
            passage = passage_of(table)
            latest = passage.latest()
            wanted = model_latest(table)
            self.assertEqual(table_of(latest).row, wanted.row)
            self.assertEqual(latest.runs, model_runs(wanted))
            self.assertEqual(passage.runs, model_runs(table))

    def test_gaps_of_latest_are_as_many_as_platoons_and_the_reverse(self):
        source = random.Random(16)
        great = [great_passage(source, GREAT, many) for many in (1, 5, 300)]
        for passage in [passage_of(table) for table in some_tables()] + great:
            latest = passage.latest()
            self.assertEqual(len(gaps(latest)), len(platoons(passage)))
            self.assertEqual(len(platoons(latest)), len(gaps(passage)))

    def test_several_hundred_runs(self):
        source = random.Random(17)
        for steps in (400, 600, 800):
            table = chance_table(source, 3000, steps)
            passage = passage_of(table)
            self.assertGreater(len(passage.runs), 200)
            self.assertEqual(passage.runs, model_runs(table))
            self.assertEqual(platoons(passage), model_platoons(table))
            self.assertEqual(gaps(passage), model_gaps(table))
            self.assertEqual(table_of(passage.latest()).row, model_latest(table).row)

    def test_great_cycles(self):
        source = random.Random(18)
        for many in (1, 2, 40, 500):
            passage = great_passage(source, GREAT, many)
            latest = passage.latest()
            self.assertTrue(is_one_form(GREAT, latest.runs))
            moments = near_edges(latest) + [source.randint(-10 ** 90, 10 ** 90) for _ in range(50)]
            for moment in moments:
                start = latest(moment)
                self.assertTrue(passage(start) <= moment < passage(start + 1))
            for first, last, arrival in platoons(passage):
                self.assertTrue(0 <= first < last and first < GREAT)
                self.assertEqual([passage(start) for start in (first, last)], [arrival, arrival])
                self.assertTrue(passage(first - 1) < arrival < passage(last + 1))
            for first, last in gaps(passage):
                self.assertTrue(0 <= first <= last and first < GREAT)
                start = latest(first)
                self.assertEqual([passage(start), passage(start + 1)], [first - 1, last + 1])

    def test_great_cycles_with_one_run(self):
        passage = Passage(GREAT, ((5, 5, 7),))
        self.assertEqual(platoons(passage), [(6, GREAT + 5, GREAT + 7)])
        self.assertEqual(gaps(passage), [(8, GREAT + 6)])
        self.assertEqual(passage.latest().runs, ((6, 6, 5 - GREAT),))
        self.assertEqual([platoons(travel_of(GREAT, 4)), gaps(travel_of(GREAT, 4))], [[], []])

    def test_platoons_and_gaps_begin_in_the_first_cycle(self):
        for ticks in (-10 ** 60, -7, 0, 10 ** 60):
            passage = Passage(10, ((2, 3, 5 + ticks), (6, 6, 8 + ticks)))
            self.assertEqual(platoons(passage), [(4, 6, 8 + ticks), (7, 12, 15 + ticks)])
            wanted = sorted(((7 + ticks) % 10, (9 + ticks) % 10))
            self.assertEqual([first for first, _ in gaps(passage)], wanted)

    def test_lists_are_new_ones(self):
        passage = Passage(10, ((2, 3, 5),))
        for call in (platoons, gaps):
            call(passage).clear()
            self.assertEqual(len(call(passage)), 1)


class Comparisons(unittest.TestCase):
    def check(self, one, other):
        ones, others = passage_of(one), passage_of(other)
        self.assertEqual(first_difference(ones, others), model_first(one, other, lambda x, y: x != y))
        self.assertEqual(first_later(ones, others), model_first(one, other, lambda x, y: x > y))

    def test_small_cycles(self):
        for cycle in range(1, 5):
            others = list(all_tables(cycle, (-1, 0, 1)))
            for one in all_tables(cycle):
                for other in others:
                    self.check(one, other)

    def test_chance(self):
        source = random.Random(19)
        for _ in range(800):
            cycle = source.randint(5, 60)
            one = chance_table(source, cycle, source.choice([100, 500, 900]))
            other = list(one.row)
            if source.randrange(2):
                # A table that differs at a few starts only.
                at = source.randrange(cycle)
                other[at] = source.randint(one(at - 1), one(at + 1))
                self.check(one, Table(model_sorted(other, cycle)))
            else:
                self.check(one, chance_table(source, cycle, source.choice([100, 500, 900])))

    def test_several_hundred_runs(self):
        source = random.Random(20)
        for _ in range(20):
            one = chance_table(source, 2000, 600)
            at = source.randrange(2000)
            other = Table(one.row[:at] + tuple(min(arrival + 1, one.row[0] + 2000) for arrival in one.row[at:]))
            self.check(one, other)
            self.check(other, one)

    def test_great_cycles(self):
        one, two = Passage(GREAT, ((GREAT // 3, GREAT // 2, 5),)), Passage(GREAT, ((GREAT // 3, GREAT // 2 + 1, 5),))
        self.assertEqual(first_difference(one, two), GREAT // 2 + 1)
        self.assertEqual([first_later(one, two), first_later(two, one)], [GREAT // 2 + 1, None])
        self.assertEqual([first_difference(one, one), first_later(one, one)], [None, None])
        travel = travel_of(GREAT, 0)
        signal = pass_of(GREAT, ((0, GREAT - 1),))
        self.assertEqual([first_difference(travel, signal), first_later(signal, travel)], [GREAT - 1] * 2)
        self.assertEqual([first_later(travel, signal), first_later(travel + travel, travel)], [None, None])
        flat = Passage(GREAT, ((GREAT - 1, GREAT - 1, GREAT // 2),))
        self.assertEqual([first_later(travel, flat), first_later(flat, travel)], [GREAT // 2 + 1, 0])
        self.assertEqual([first_difference(travel, flat), first_difference(flat, travel)], [0, 0])

    def test_great_cycles_by_chance(self):
        source = random.Random(21)
        for many in (1, 3, 30, 400):
            one, other = great_passage(source, GREAT, many), great_passage(source, GREAT, many)
            other = other + travel_of(GREAT, (one(0) - other(0)) // 2)
            later = first_later(one, other)
            starts = [start for start in near_edges(one) + near_edges(other) if 0 <= start < GREAT]
            for start in starts + [source.randrange(GREAT) for _ in range(100)]:
                if one(start) > other(start):
                    self.assertTrue(later is not None and later <= start)
            if later is not None:
                self.assertGreater(one(later), other(later))
                self.assertTrue(later == 0 or one(later - 1) <= other(later - 1))


def model_sorted(row, cycle):
    """A row that may fall at one place, made one that does not, with no more than a cycle from end to end."""
    begin = row[0]
    out = []
    for arrival in row:
        out.append(min(max([arrival] + out[-1:]), begin + cycle))
    return out


if __name__ == "__main__":
    unittest.main()
