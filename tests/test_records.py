"""Section 11 of the interface: records of an unknown passage."""
import random
import unittest

from greenroads.errors import Contradiction, InvalidRecords
from greenroads.passages import Passage
from greenroads.records import certain, fits, highest, lowest, widest
from tests.model import all_tables, great_passage, model_runs, near_edges, table_of

GREAT = 10 ** 30


def model_contradiction(cycle, travel, records):
    """The least indices of a contradiction, by the words of point 15."""
    turns = range(-12, 13)

    def overtakes(one, other):
        return any(one[0] + turn * cycle <= other[0] and one[1] + turn * cycle > other[1] for turn in turns)

    for first, one in enumerate(records):
        for second, other in enumerate(records):
            if first == second and one[1] - one[0] < travel:
                return first, second
            if first < second and (overtakes(one, other) or overtakes(other, one)):
                return first, second
    return None


def tables_with(cycle, travel, records):
    """The tables of all passages that have the records and no duration below the travel, but none with far arrivals."""
    least, most = travel, max(arrival - start for start, arrival in records) + 2 * cycle
    return [table for table in all_tables(cycle, range(least, most + 1))
            if min(table(start) - start for start in range(cycle)) >= travel
            and all(table(start) == arrival for start, arrival in records)]


def chance_records(source, cycle, fitting):
    """Some records: of one passage, or of any numbers, or just not of one passage."""
    many = source.choice([1, 1, 2, 2, 3, 4])
    starts = [source.randint(-2 * cycle, 3 * cycle) for _ in range(many)]
    table = source.choice(fitting)
    records = [(start, table(start)) for start in starts]
    if source.randrange(2) == 0:
        at = source.randrange(many)
        records[at] = (records[at][0], records[at][1] + source.choice([-1, 1, source.randint(-cycle, cycle)]))
    return records


class SmallRecords(unittest.TestCase):
    def some_records(self, seed, many):
        source = random.Random(seed)
        fitting = {cycle: list(all_tables(cycle, range(0, 3))) for cycle in (1, 2, 3, 4)}
        for _ in range(many):
            cycle = source.choice([1, 2, 3, 3, 4])
            yield cycle, source.choice([0, 0, 1, 2]), chance_records(source, cycle, fitting[cycle])

    def test_against_all_passages(self):
        fit, others = 0, 0
        for cycle, travel, records in self.some_records(181, 400):
            found = model_contradiction(cycle, travel, records)
            if any(arrival - start < travel for start, arrival in records):
                self.assertIsNotNone(found)
            else:
                tables = tables_with(cycle, travel, records)
                # There is such a passage exactly if there is no contradiction.
                self.assertIs(found is None, len(tables) > 0)
            self.assertIs(fits(cycle, travel, records), found is None)
            if found is not None:
                others += 1
                for call in (lowest, highest, widest, lambda *told: certain(*told, 3)):
                    self.check_contradiction(found, call, cycle, travel, records)
                continue
            fit += 1
            self.check_bounds(cycle, travel, records, tables)
        self.assertTrue(fit > 100 and others > 100)

    def check_contradiction(self, wanted, call, *arguments):
        with self.assertRaises(Contradiction) as caught:
            call(*arguments)
        self.assertEqual((caught.exception.first, caught.exception.second), wanted)

    def check_bounds(self, cycle, travel, records, tables):
        low, high = table_of(lowest(cycle, travel, records)), table_of(highest(cycle, travel, records))
        self.assertEqual(low.row, tuple(min(table(start) for table in tables) for start in range(cycle)))
        self.assertEqual(high.row, tuple(max(table(start) for table in tables) for start in range(cycle)))
        self.assertEqual(lowest(cycle, travel, records).runs, model_runs(low))
        self.assertEqual(highest(cycle, travel, records).runs, model_runs(high))
        widths = [late - early for early, late in zip(low.row, high.row)]
        self.assertEqual(widest(cycle, travel, records), (max(widths), widths.index(max(widths))))
        for start in [*range(-cycle, 2 * cycle), 10 ** 60]:
            arrivals = {table(start) for table in tables}
            # Each arrival between both is that of some passage.
            self.assertEqual(sorted(arrivals), list(range(low(start), high(start) + 1)))
            wanted = low(start) if len(arrivals) == 1 else None
            self.assertEqual(certain(cycle, travel, records, start), wanted)

    def test_one_record(self):
        for start, arrival, travel in [(0, 0, 0), (3, 5, 2), (-7, 30, 0), (10 ** 99, 2 * 10 ** 99, 0)]:
            records = [(start, arrival)]
            late = highest(10, travel, records)
            self.assertEqual([late(start), late(start - 9), late(start + 1)], [arrival, arrival, arrival + 10])
            early = lowest(10, travel, records)
            self.assertEqual([early(start), early(start + 9)], [arrival, max(arrival, start + 9 + travel)])
            self.assertEqual(certain(10, travel, records, start), arrival)
            self.assertEqual(certain(10, travel, records, start + 10), arrival + 10)
        self.assertEqual([fits(10, 3, [(0, 2)]), fits(10, 2, [(0, 2)])], [False, True])

    def test_records_some_cycles_from_one_another(self):
        self.assertEqual([fits(10, 0, [(0, 5), (30, arrival)]) for arrival in (34, 35, 36)], [False, True, False])
        self.assertEqual([fits(10, 0, [(0, 5), (-29, arrival)]) for arrival in (-26, -25, -15, -14)],
                         [False, True, True, False])
        self.assertEqual([fits(10, 0, [(0, 5), (29, arrival)]) for arrival in (24, 28, 29, 35, 36)],
                         [False, False, True, True, False])
        self.check_contradiction((0, 1), lowest, 10, 0, [(0, 5), (30, 36)])

    def test_the_least_contradiction(self):
        for records, wanted in [
                ([(0, 5), (3, 4)], (0, 1)), ([(3, 4), (0, 5)], (0, 0)), ([(0, 5), (4, 4), (3, 5)], (0, 1)),
                ([(0, 5), (4, 5), (3, 4)], (0, 2)), ([(0, 1), (4, 5), (3, 4), (5, 4)], (0, 0)),
                ([(0, 2), (4, 5), (5, 6), (8, 10)], (1, 1)), ([(0, 2), (4, 5), (8, 20)], (0, 2)), ([(0, 2), (4, 6), (5, 6), (8, 9)], (2, 2)),
                ([(0, 2), (4, 6), (5, 6), (6, 8), (5, 9)], (2, 2)), ([(0, 2), (4, 6), (14, 17)], (1, 2))]:
            self.check_contradiction(wanted, highest, 10, 2, records)
            self.assertEqual(model_contradiction(10, 2, records), wanted)

    def test_records_stay_as_they_are(self):
        records = [(0, 5), (3, 6)]
        for _ in range(2):
            found = [lowest(10, 2, records).runs, highest(10, 2, records).runs, widest(10, 2, records)]
            self.assertEqual(found, [((2, 2, 5), (4, 9, 6)), ((0, 0, 5), (3, 3, 6)), (9, 4)])
        self.assertEqual(records, [(0, 5), (3, 6)])

    def test_limits(self):
        records = [(start, start + 5) for start in range(40)]
        self.assertEqual(lowest(10, 0, records).runs, ((0, 9, 5),))
        self.assertEqual(highest(10, 5, records).runs, ((0, 9, 5),))
        for wrong in ([], records + [(40, 45)], records * 12):
            with self.assertRaises(InvalidRecords) as caught:
                fits(10, 0, wrong)
            self.assertIsNone(caught.exception.row)
        self.assertEqual(lowest(10, GREAT, [(0, GREAT)])(1), GREAT + 1)
        self.assertEqual([fits(10, GREAT, [(0, GREAT)]), fits(10, GREAT, [(0, GREAT - 1)])], [True, False])


class GreatRecords(unittest.TestCase):
    def test_records_of_a_passage(self):
        source = random.Random(182)
        for many in (1, 2, 7, 40):
            for _ in range(10):
                passage = great_passage(source, GREAT, source.choice([1, 5, 40]))
                shortest = min(arrival - first for first, _, arrival in passage.runs)
                passage = passage if shortest >= 0 else passage + Passage(GREAT, ((0, GREAT - 1, -shortest),))
                travel = max(0, shortest) - source.choice([0, max(0, shortest) // 2])
                travel = min(travel, GREAT)
                edges = near_edges(passage)
                starts = [source.choice([source.choice(edges), source.randint(-10 ** 90, 10 ** 90)])
                          for _ in range(many)]
                records = [(start, passage(start)) for start in starts]
                self.assertIs(fits(GREAT, travel, records), True)
                low, high = lowest(GREAT, travel, records), highest(GREAT, travel, records)
                for start in starts:
                    self.assertEqual([low(start), high(start), certain(GREAT, travel, records, start)],
                                     [passage(start)] * 3)
                for start in edges[:40] + [source.randint(-10 ** 60, 10 ** 60)]:
                    self.assertTrue(low(start) <= passage(start) <= high(start))
                    self.assertGreaterEqual(low(start), start + travel)
                    wanted = low(start) if low(start) == high(start) else None
                    self.assertEqual(certain(GREAT, travel, records, start), wanted)
                width, start = widest(GREAT, travel, records)
                self.assertEqual(high(start) - low(start), width)
                self.assertTrue(all(high(edge) - low(edge) <= width for edge in near_edges(low) + near_edges(high)))

    def test_just_contradicting(self):
        source = random.Random(183)
        for _ in range(100):
            start, arrival = source.randint(-10 ** 60, 10 ** 60), source.randint(10 ** 61, 10 ** 62)
            turns, ahead = source.randint(-5, 5), source.choice([0, 1, GREAT - 1, source.randrange(GREAT)])
            # Moved by turns, the second one starts ahead or together with the first one moved.
            low, high = arrival + turns * GREAT, arrival + turns * GREAT + (GREAT if ahead else 0)
            for late, wanted in [(low - 1, False), (low, True), (high, True), (high + 1, False)]:
                records = [(start, arrival), (start + ahead + turns * GREAT, late)]
                self.assertIs(fits(GREAT, 0, records), wanted)
                self.assertIs(fits(GREAT, 0, records[::-1]), wanted)

    def test_drawn_out(self):
        source = random.Random(184)
        fitting = list(all_tables(3, range(0, 3)))
        for _ in range(100):
            records, times = chance_records(source, 3, fitting), source.choice([7, 10 ** 15, GREAT // 3])
            great = [(start * times, arrival * times) for start, arrival in records]
            self.assertIs(fits(3 * times, times, great), fits(3, 1, records))
            if fits(3, 1, records):
                low, high = lowest(3, 1, records), highest(3, 1, records)
                great_low, great_high = lowest(3 * times, times, great), highest(3 * times, times, great)
                for start in range(-3, 4):
                    self.assertEqual([great_low(start * times), great_high(start * times)],
                                     [low(start) * times, high(start) * times])


if __name__ == "__main__":
    unittest.main()
