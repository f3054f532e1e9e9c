"""Section 5 of the interface: starts by their durations."""
import random
import unittest

from greenroads.passages import Passage, pass_of, travel_of
from greenroads.roads import Road
from greenroads.starts import best_start, count_within, nth_within, total_time, worst_start
from tests.model import Table, all_tables, chance_table, drawn_out, great_passage, near_edges, passage_of

GREAT = 10 ** 30


def some_tables():
    for cycle in range(1, 5):
        yield from all_tables(cycle, (-cycle - 1, 0, 2))
    source = random.Random(71)
    for cycle in [5, 6, 8, 13, 21, 40]:
        for steps in (30, 300, 600, 950):
            yield chance_table(source, cycle, steps)


def durations_of(table, starts):
    return [table(start) - start for start in starts]


class SmallStarts(unittest.TestCase):
    def test_count_within(self):
        source = random.Random(72)
        for table in some_tables():
            passage, cycle = passage_of(table), table.cycle
            durations = durations_of(table, range(cycle))
            for most in range(min(durations) - 2, max(durations) + 3):
                low, high = source.randint(-3 * cycle, 3 * cycle), source.randint(-3 * cycle, 3 * cycle)
                for begin, end in [(0, cycle), (low, high), (low, low + 1), (low, low), (high, low)]:
                    wanted = len([duration for duration in durations_of(table, range(begin, end)) if duration <= most])
                    self.assertEqual(count_within(passage, most, begin, end), wanted)

    def test_nth_within(self):
        for table in some_tables():
            passage, cycle = passage_of(table), table.cycle
            durations = durations_of(table, range(3 * cycle))
            for most in range(min(durations) - 2, max(durations) + 3):
                wanted = [start for start, duration in enumerate(durations) if duration <= most]
                found = [nth_within(passage, most, index) for index in range(len(wanted))]
                self.assertEqual(found, wanted)
                if not wanted:
                    self.assertIsNone(nth_within(passage, most, 0))
                    self.assertIsNone(nth_within(passage, most, 10 ** 99))

    def test_total_time(self):
        source = random.Random(73)
        for table in some_tables():
            passage, cycle = passage_of(table), table.cycle
            for low in range(-cycle - 1, cycle + 1):
                high = low + source.randint(0, 3 * cycle)
                for begin, end in [(low, high), (low, low + 1), (low, low), (high, low)]:
                    wanted = sum(durations_of(table, range(begin, end)))
                    self.assertEqual(total_time(passage, begin, end), wanted)

    def test_worst_and_best(self):
        for table in some_tables():
            passage, durations = passage_of(table), durations_of(table, range(table.cycle))
            self.assertEqual(worst_start(passage), (max(durations), durations.index(max(durations))))
            self.assertEqual(best_start(passage), (min(durations), durations.index(min(durations))))

    def test_none(self):
        passage = travel_of(10, 5)
        for low, high in [(3, 3), (4, 3), (10 ** 99, -10 ** 99), (0, 0)]:
            self.assertEqual([count_within(passage, 99, low, high), total_time(passage, low, high)], [0, 0])
        self.assertEqual([count_within(passage, 4, 0, 10 ** 99), count_within(passage, 5, 0, 10 ** 99)], [0, 10 ** 99])
        self.assertEqual([nth_within(passage, 4, 0), nth_within(passage, 5, 7)], [None, 7])

    def test_durations_below_zero(self):
        passage = Passage(10, ((2, 3, -95),))
        self.assertEqual([best_start(passage), worst_start(passage)], [(-97, 2), (-89, 4)])
        self.assertEqual([count_within(passage, -96, -10, 10), count_within(passage, -98, -10, 10)], [6, 0])
        self.assertEqual([total_time(passage, 0, 10), nth_within(passage, -97, 5)], [66 - 1000, 23])

    def test_starts_of_roads(self):
        road = Road(10, "( s:0+4 3 )2")
        passage = road.passage()
        durations = [road(start) - start for start in range(10)]
        self.assertEqual(worst_start(passage), (max(durations), durations.index(max(durations))))
        self.assertEqual(total_time(passage, -20, 30), 5 * sum(durations))

    def test_a_passage_stays_as_it_is(self):
        passage = Passage(10, ((2, 3, 5), (7, 7, 9)))
        told = dict(vars(passage))
        for _ in range(2):
            found = [count_within(passage, 4, 0, 10), nth_within(passage, 4, 3), total_time(passage, -3, 8),
                     worst_start(passage), best_start(passage)]
            self.assertEqual(found, [6, 5, 44, (7, 8), (2, 7)])
        self.assertEqual(vars(passage), told)


class GreatStarts(unittest.TestCase):
    """Small passages of which each start is drawn out to many starts: the counts and sums follow."""

    def drawn(self):
        source = random.Random(74)
        for table in some_tables():
            if source.randrange(6) == 0:
                times = source.choice([7, 10 ** 20 + 39, GREAT // table.cycle])
                yield source, table, times, drawn_out(passage_of(table), times)

    def test_count_within(self):
        for source, table, times, passage in self.drawn():
            durations = durations_of(table, range(table.cycle))
            for most in range(min(durations) - 1, max(durations) + 2):
                low, high = source.randint(-30, 30), source.randint(-30, 30)
                rows = range(low, high)
                counted = len([start for start in rows if table(start) - start <= most])
                self.assertEqual(count_within(passage, most * times, low * times, high * times), counted * times)
                # Where all arrive together, each start ahead of the last one takes one tick more.
                less = len([start for start in rows if table(start) - start <= most - 1])
                equal = [start for start in rows if table(start) - start == most]
                waits = len([start for start in equal if table(start) == table(start + 1)])
                found = count_within(passage, most * times - 1, low * times, high * times)
                self.assertEqual(found, less * times + waits * (times - 1))

    def test_nth_within(self):
        for source, table, times, passage in self.drawn():
            durations = durations_of(table, range(table.cycle))
            for most in range(min(durations), max(durations) + 1):
                starts = [start for start, duration in enumerate(durations) if duration <= most]
                for index, start in enumerate(starts):
                    turns, into = source.choice([0, 1, 10 ** 60]), source.randrange(times)
                    found = nth_within(passage, most * times, (index + turns * len(starts)) * times + into)
                    self.assertEqual(found, (start + turns * table.cycle) * times + into)

    def test_total_time(self):
        for source, table, times, passage in self.drawn():
            low, high = source.randint(-30, 30), source.randint(-30, 30)
            wanted = 0
            for start in range(low, high):
                wanted += (table(start) - start) * times * times
                if table(start) == table(start + 1):
                    wanted -= times * (times - 1) // 2
            self.assertEqual(total_time(passage, low * times, high * times), wanted)

    def test_worst_and_best(self):
        for _, table, times, passage in self.drawn():
            durations = durations_of(table, range(table.cycle))
            worst, best = max(durations), min(durations)
            self.assertEqual(worst_start(passage), (worst * times, durations.index(worst) * times))
            self.assertEqual(best_start(passage), (best * times, durations.index(best) * times))

    def test_any_numbers(self):
        source = random.Random(75)
        for many in (1, 3, 40, 400):
            passage = great_passage(source, GREAT, many)
            edges = near_edges(passage)
            edges = source.sample(edges, min(90, len(edges)))
            starts = sorted(edges + [source.randint(-3 * GREAT, 3 * GREAT) for _ in range(9)])
            durations = [passage(start) - start for start in starts]
            self.assertTrue(worst_start(passage)[0] >= max(durations) and best_start(passage)[0] <= min(durations))
            for duration, start in (worst_start(passage), best_start(passage)):
                self.assertEqual(passage(start) - start, duration)
                self.assertTrue(0 <= start < GREAT)
            for start, duration in zip(starts, durations):
                self.assertEqual(total_time(passage, start, start + 1), duration)
                self.assertEqual(count_within(passage, duration, start, start + 1), 1)
                self.assertEqual(count_within(passage, duration - 1, start, start + 1), 0)
                if start >= 0:
                    index = count_within(passage, duration, 0, start)
                    self.assertEqual(nth_within(passage, duration, index), start)
            for low, middle in zip(starts, starts[1:]):
                high = source.randint(middle, 10 ** 40)
                for call in (total_time, lambda *told: count_within(told[0], durations[0], *told[1:])):
                    parts = call(passage, low, middle) + call(passage, middle, high)
                    self.assertEqual(call(passage, low, high), parts)

    def test_known_answers(self):
        passage = pass_of(GREAT, ((0, 1),))
        self.assertEqual(total_time(passage, 0, GREAT), GREAT * (GREAT - 1) // 2)
        self.assertEqual(total_time(passage, -10 ** 90, 0), GREAT * (GREAT - 1) // 2 * 10 ** 60)
        self.assertEqual([worst_start(passage), best_start(passage)], [(GREAT - 1, 1), (0, 0)])
        self.assertEqual(count_within(passage, 0, -10 ** 90, 10 ** 90), 2 * 10 ** 60)
        self.assertEqual(count_within(passage, GREAT // 2, 0, GREAT), GREAT // 2 + 1)
        self.assertEqual([nth_within(passage, 1, index) for index in (0, 1, 2, 10 ** 90)],
                         [0, GREAT - 1, GREAT, 5 * 10 ** 119])
        passage = travel_of(GREAT, 10 ** 99)
        self.assertEqual([worst_start(passage), best_start(passage)], [(10 ** 99, 0)] * 2)
        self.assertEqual(total_time(passage, -3, 10 ** 99), 10 ** 198 + 3 * 10 ** 99)
        self.assertEqual(nth_within(passage, 10 ** 99, 10 ** 99), 10 ** 99)

    def test_cycle_of_one(self):
        passage = travel_of(1, -4)
        self.assertEqual([worst_start(passage), best_start(passage)], [(-4, 0), (-4, 0)])
        self.assertEqual([count_within(passage, -4, -5, 5), count_within(passage, -5, -5, 5)], [10, 0])
        self.assertEqual([nth_within(passage, 0, 8), total_time(passage, -5, 5)], [8, -40])

    def test_tables_agree_with_their_model(self):
        table = Table((5, 5, 5, 6) + (15,) * 6)
        passage = drawn_out(passage_of(table), 1)
        self.assertEqual([passage(start) for start in range(10)], list(table.row))


if __name__ == "__main__":
    unittest.main()
