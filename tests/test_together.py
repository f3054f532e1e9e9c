"""Passages put together: one behind the other, the sooner, both."""
import random
import unittest

from greenroads.passages import Passage, first_difference, gaps, pass_of, platoons, travel_of
from tests.model import (
    Table, all_tables, chance_table, great_passage, is_one_form, model_latest, model_runs, near_edges,
    passage_of, table_of)

GREAT = 10 ** 30


def together(one, other):
    """The three tables of two tables put together, start by start."""
    starts = range(one.cycle)
    return (Table([other(one(start)) for start in starts]), Table([min(one(start), other(start)) for start in starts]),
            Table([max(one(start), other(start)) for start in starts]))


def put_together(one, other):
    return one + other, one | other, one & other


class Together(unittest.TestCase):
    def check(self, one, other):
        ones, others = passage_of(one), passage_of(other)
        for made, wanted in zip(put_together(ones, others), together(one, other)):
            self.assertEqual(made.runs, model_runs(wanted))
            self.assertEqual(made.cycle, wanted.cycle)
            self.assertLessEqual(len(platoons(made)), len(platoons(ones)) + len(platoons(others)))
            self.assertLessEqual(len(gaps(made)), len(gaps(ones)) + len(gaps(others)))

    def test_all_of_small_cycles(self):
        for cycle in range(1, 5):
            others = list(all_tables(cycle, range(-1, cycle)))
            for one in all_tables(cycle):
                for other in others:
                    self.check(one, other)

    def test_chance(self):
        source = random.Random(31)
        for _ in range(600):
            cycle = source.randint(5, 50)
            one, other = [chance_table(source, cycle, source.choice([50, 300, 600, 950])) for _ in range(2)]
            self.check(one, other)
            # Passages that begin alike overtake each other more often.
            moved = Table([arrival - other(0) + one(0) for arrival in other.row])
            self.check(one, moved)
            self.check(moved, one)

    def test_several_hundred_runs(self):
        source = random.Random(32)
        for steps in (300, 500, 800):
            one, other = chance_table(source, 2500, steps), chance_table(source, 2500, 500)
            other = Table([arrival - other(0) + one(0) for arrival in other.row])
            ones, others = passage_of(one), passage_of(other)
            self.assertGreater(min(len(ones.runs), len(others.runs)), 150)
            for made, wanted in zip(put_together(ones, others), together(one, other)):
                self.assertEqual(made.runs, model_runs(wanted))

    def test_the_parts_stay_as_they_are(self):
        source = random.Random(33)
        for _ in range(50):
            one, other = passage_of(chance_table(source, 20, 400)), passage_of(chance_table(source, 20, 700))
            runs = one.runs, other.runs
            made = put_together(one, other) + (one.latest(), other.latest())
            kept = [passage.runs for passage in made]
            put_together(made[0], made[1])
            self.assertEqual((one.runs, other.runs), runs)
            self.assertEqual([passage.runs for passage in made], kept)
            self.assertEqual([one.cycle, other.cycle], [20, 20])

    def test_they_are_passages_in_every_respect(self):
        source = random.Random(34)
        for _ in range(40):
            passages = [passage_of(chance_table(source, 30, steps)) for steps in (300, 600, 900)]
            tables = [table_of(passage) for passage in passages]
            made = (passages[0] + passages[1] | passages[2]).latest() & passages[1].latest()
            chosen = together(together(tables[0], tables[1])[0], tables[2])[1]
            wanted = together(model_latest(chosen), model_latest(tables[1]))[2]
            self.assertEqual(made.runs, model_runs(wanted))
            self.assertTrue(Passage(30, made.runs) == made)
            self.assertEqual(first_difference(made, Passage(30, made.runs)), None)

    def test_order_of_behind(self):
        one, two = Passage(10, ((2, 3, 5),)), Passage(10, ((0, 1, 5),))
        self.assertEqual([(one + two)(3), (two + one)(3)], [15, 25])
        self.assertEqual([(one + two).runs, (two + one).runs], [((3, 3, 15),), ((1, 1, 15),)])

    def test_with_itself(self):
        one = Passage(10, ((2, 3, 5), (7, 8, 11)))
        self.assertTrue((one | one) == one and (one & one) == one)
        self.assertTrue(one + travel_of(10, 0) == one and travel_of(10, 0) + one == one)
        self.assertEqual((one + travel_of(10, 10 ** 99)).runs, ((2, 3, 5 + 10 ** 99), (7, 8, 11 + 10 ** 99)))


class GreatCycles(unittest.TestCase):
    def check(self, one, other, source):
        behind, sooner, both = put_together(one, other)
        starts = near_edges(one) + near_edges(other)
        latest = one.latest()
        starts += [latest(moment) + beside for moment in near_edges(other) for beside in (0, 1)]
        for made in (behind, sooner, both):
            self.assertTrue(is_one_form(one.cycle, made.runs))
            starts += near_edges(made)
        starts += [source.randint(-10 ** 80, 10 ** 80) for _ in range(30)]
        for start in starts:
            self.assertEqual(behind(start), other(one(start)))
            self.assertEqual(sooner(start), min(one(start), other(start)))
            self.assertEqual(both(start), max(one(start), other(start)))
        for made in (behind, sooner, both):
            self.assertLessEqual(len(platoons(made)), len(platoons(one)) + len(platoons(other)))
            self.assertLessEqual(len(gaps(made)), len(gaps(one)) + len(gaps(other)))

    def test_few_and_many_runs(self):
        source = random.Random(35)
        for many, others in [(1, 1), (1, 2), (2, 3), (5, 4), (30, 50), (500, 3), (500, 500)]:
            for _ in range(1 if many > 100 else 5):
                one, other = great_passage(source, GREAT, many), great_passage(source, GREAT, others)
                self.check(one, other, source)
                self.check(one, other + travel_of(GREAT, one(0) - other(0)), source)

    def test_known_answers(self):
        half = GREAT // 2
        signal, travel = pass_of(GREAT, ((0, half),)), travel_of(GREAT, 3)
        self.assertEqual((signal + travel).runs, ((0, half - 1, 3),))
        self.assertEqual((travel + signal).runs, ((GREAT - 3, GREAT + half - 4, GREAT),))
        self.assertEqual((signal | travel).runs, ((0, half - 1, 0), (half, GREAT - 4, half + 3)))
        self.assertEqual((signal & travel).runs, ((GREAT - 3, GREAT + half - 1, GREAT),))

    def test_a_long_chain(self):
        source = random.Random(36)
        parts = [great_passage(source, GREAT, 5) for _ in range(60)]
        chain = parts[0]
        for part in parts[1:]:
            chain = chain + part
        choice = parts[0]
        for part in parts[1:]:
            choice = choice | part + travel_of(GREAT, parts[0](0) - part(0))
        for start in near_edges(chain) + near_edges(choice) + [source.randrange(GREAT) for _ in range(20)]:
            moment, least = start, parts[0](start)
            for part in parts:
                moment = part(moment)
                least = min(least, part(start) + parts[0](0) - part(0))
            self.assertEqual(chain(start), moment)
            self.assertEqual(choice(start), least)


if __name__ == "__main__":
    unittest.main()
