"""Section 4 of the interface: roads, their passages, and what is asked of them."""
import random
import unittest

from greenroads.errors import OtherCycle, TooLarge
from greenroads.passages import gaps, pass_of, platoons, travel_of
from greenroads.roads import Road, drive, needless_signals, same_roads
from tests.model import is_one_form, model_runs, near_edges
from tests.road_model import (
    always_green, chance_text, chance_words, model_drive, model_passes, model_table, model_tree)

GREAT = 10 ** 30
# What the brackets do, side by side and in one another, with empty roads and equal arrivals.
TEXTS = [
    "", "0", "7", "s:0+4", "s:8+4", "s:9+10", "s:0+1,5+1", "s:0+4 3 s:5+4", "3 s:0+4 0 s:0+4 12 s:9+2,3+1",
    "( s:0+4 3 )1", "( s:0+4 3 )2", "( ( s:0+4 3 )2 s:5+2 4 )3 1", "( ( ( 1 )2 )2 )2", "{ | }", "< & >", "{ | | 5 }",
    "{ 5 | }", "< 5 & >", "( { | } )40", "( { | s:3+2 } )2", "( < s:0+4 & s:3+2 > 4 )3", "{ s:0+2 5 | 9 }",
    "< s:0+2 5 & 9 >", "{ 4 | 4 | s:2+3 }", "{ s:2+3 | s:2+3,7+1 | s:1+9 }", "{ < s:0+2 & 3 > | { s:5+1 | 4 } 1 }",
    "< { s:0+2 5 | 9 } s:4+1 & ( s:3+3 2 )2 & > s:6+2", "1 { 2 < 3 & { 4 | 5 } 6 > 7 | 8 } 9",
    "( { ( < 5 & s:4+1 > )2 | s:7+2 } )2 s:1+1", "{ ( s:0+2 5 )3 | { 20 | < s:3+1 & 7 > } s:0+1 }",
    "( ( ( ( ( ( ( ( s:3+3 1 )1 )2 )1 )2 )1 )2 )1 )2",
    "{ { { { { { { { s:3+3 | 1 } | } 2 | } 3 | 5 } | } 2 | 9 } 2 | } | }"]


def chance_roads(seed, many):
    source = random.Random(seed)
    for _ in range(many):
        cycle = source.choice([1, 2, 3, 5, 7, 10, 12, 30])
        yield cycle, chance_text(source, cycle, source.randint(0, 12), source.choice([0, 1, 2, 3, 3]))


def adds_up_at_most(road):
    """Whether a road has at most as many platoons and gaps as all its passes together."""
    singles = [pass_of(road.cycle, road.signals[index]) for index in road.passes]
    return all(len(call(road.passage())) <= sum(len(call(single)) for single in singles) for call in (platoons, gaps))


class SmallRoads(unittest.TestCase):
    def check(self, cycle, text):
        with self.subTest(cycle=cycle, text=text):
            road, tree, table = Road(cycle, text), model_tree(text), model_table(cycle, text)
            passage = road.passage()
            self.assertEqual((passage.cycle, passage.runs), (cycle, model_runs(table)))
            for start in [*range(-2 * cycle, 3 * cycle), -10 ** 30, 10 ** 30 + 3, -10 ** 99 - 4]:
                seen, arrival = model_drive(cycle, tree, start)
                self.assertEqual(drive(road, start), seen)
                self.assertEqual([road(start), passage(start)], [arrival, arrival])

    def test_each_bracket(self):
        for text in TEXTS:
            self.check(10, text)

    def test_chance(self):
        for cycle, text in chance_roads(51, 500):
            self.check(cycle, text)

    def test_platoons_and_gaps_add_up_at_most(self):
        for cycle, text in chance_roads(52, 300):
            self.assertTrue(adds_up_at_most(Road(cycle, text)))

    def test_the_first_road_of_several(self):
        road = Road(10, "{ s:0+4 5 | s:1+3 5 | s:0+1 5 }")
        self.assertEqual([drive(road, start)[0][0] for start in (0, 1, 3, 4, 9, 10)], [0, 0, 0, 0, 0, 0])
        road = Road(10, "{ s:1+3 5 | s:0+4 5 | s:0+4 5 }")
        self.assertEqual([drive(road, start)[0][0] for start in (0, 1, 3, 4, 9, 10, 11)], [1, 0, 0, 1, 1, 1, 0])
        self.assertEqual(drive(Road(10, "{ | s:0+10 }"), 3), [])
        self.assertEqual(drive(Road(10, "{ s:0+10 | }"), 3), [(0, 3, 3)])

    def test_the_convoy_in_the_order_of_the_text(self):
        road = Road(10, "1 < s:5+1 s:0+1 & { s:8+1 | s:4+1 } & > s:2+1")
        self.assertEqual(drive(road, 0), [(0, 1, 5), (1, 5, 10), (3, 1, 4), (4, 10, 12)])

    def test_attributes(self):
        road = Road(10, "s:0+4 ( s:5+4,9+1 { s:1+1 | 3 } )2 2")
        self.assertEqual((road.cycle, road.text), (10, "s:0+4 ( s:5+4,9+1 { s:1+1 | 3 } )2 2"))
        self.assertEqual(road.signals, (((0, 4),), ((5, 4), (9, 1)), ((1, 1),)))
        self.assertEqual([road.passes, road.is_plain, road.travel], [(0, 1, 2, 1, 2), False, None])
        road = Road(10, "1 ( s:0+4 2 ( s:0+4 3 )3 )4")
        self.assertEqual(road.signals, (((0, 4),), ((0, 4),)))
        self.assertEqual([road.passes, road.is_plain, road.travel], [(0, 1, 1, 1) * 4, True, 45])
        road = Road(10, "")
        self.assertEqual([road.signals, road.passes, road.is_plain, road.travel, road.text], [(), (), True, 0, ""])

    def test_signals_stay_as_they_are_written(self):
        self.assertEqual(Road(10, "s:8+3,1+2,5+1,5+1 s:9+10").signals, (((8, 3), (1, 2), (5, 1), (5, 1)), ((9, 10),)))

    def test_passes_of_chance_roads(self):
        for cycle, text in chance_roads(53, 300):
            road = Road(cycle, text)
            words = text.split(" ")
            self.assertEqual(road.passes, tuple(model_passes(model_tree(text))))
            self.assertEqual(len(road.signals), len([word for word in words if word.startswith("s:")]))
            self.assertIs(road.is_plain, "{" not in words and "<" not in words)
            if not road.is_plain:
                self.assertIsNone(road.travel)

    def test_roads_without_words_in_brackets_are_not_plain(self):
        for text in ("{ | }", "< & >", "( { | } )3", "5 < & >"):
            self.assertEqual([Road(10, text).is_plain, Road(10, text).travel], [False, None])

    def test_equality(self):
        one = Road(10, "s:0+4 3")
        self.assertIs(one == Road(10, "s:0+4 3"), True)
        roads = [Road(11, "s:0+4 3"), Road(10, "s:0+4 3 0"), Road(10, "s:0+3,3+1 3"), Road(10, "")]
        for other in roads + [one.passage(), 5, None, "s:0+4 3", (one,)]:
            self.assertIs(one == other, False)
            self.assertIs(one != other, True)

    def test_a_road_stays_as_it_is(self):
        road = Road(10, "{ s:0+2 5 | 9 } ( s:3+1 )2")
        told = dict(vars(road))
        rows = [drive(road, 3), needless_signals(road), same_roads(road, road), road(4), road.passage().runs]
        drive(road, 3).clear()
        needless_signals(road).append(7)
        self.assertEqual([drive(road, 3), needless_signals(road), same_roads(road, road), road(4), road.passage().runs],
                         rows)
        self.assertEqual(vars(road), told)


class ComparedRoads(unittest.TestCase):
    def test_same_roads(self):
        for one, other in [("s:0+4 3", "s:0+3,3+1 1 2"), ("", "0"), ("", "{ 5 | }"), ("s:8+4", "s:8+2,0+2"),
                           ("5", "< 5 & 4 s:0+10 >"), ("s:0+4 s:0+4 3", "s:0+4 3"), ("( 2 )5", "10")]:
            self.assertIs(same_roads(Road(10, one), Road(10, other)), True)
        for one, other in [("s:0+4 3", "s:0+5 3"), ("s:0+4 3", "3 s:0+4"), ("", "10"), ("9", "{ s:0+2 5 | 9 }")]:
            self.assertIs(same_roads(Road(10, one), Road(10, other)), False)
        self.assertRaises(OtherCycle, same_roads, Road(10, "5"), Road(20, "5"))

    def test_same_roads_of_chance(self):
        source = random.Random(55)
        for cycle, text in chance_roads(54, 200):
            road, row = Road(cycle, text), model_table(cycle, text).row
            self.assertIs(same_roads(road, Road(cycle, f"0 {text}".strip())), True)
            other = chance_text(source, cycle, source.randint(0, 3), 1)
            self.assertIs(same_roads(road, Road(cycle, other)), row == model_table(cycle, other).row)

    def check_needless(self, cycle, text):
        road, table = Road(cycle, text), model_table(cycle, text)
        wanted = [index for index in range(len(road.signals))
                  if model_table(cycle, always_green(text, index, cycle)).row == table.row]
        self.assertEqual(needless_signals(road), wanted)

    def test_needless_signals(self):
        for text in TEXTS:
            self.check_needless(10, text)
        for cycle, text in chance_roads(56, 500):
            self.check_needless(cycle, text)

    def test_each_one_alone(self):
        for text, wanted in [("s:0+4 s:0+4 3", [0, 1]), ("s:0+4 3 s:2+5", [1]), ("s:0+4 3 s:3+4", [0, 1]),
                             ("s:0+4", []), ("s:3+10 s:0+4", [0]), ("{ s:0+4 | }", [0]),
                             ("< s:0+4 & s:1+2 >", [0]), ("( s:0+4 )5 s:0+5", [1]),
                             ("{ s:0+4 9 | 5 } < s:6+1 & s:6+2 >", [0, 2]), ("5", []), ("", []),
                             ("( s:0+4 s:0+4 10 )3 s:0+4", [0, 1, 2])]:
            self.assertEqual(needless_signals(Road(10, text)), wanted)


class GreatRoads(unittest.TestCase):
    """Cycles up to 10 ** 30: small roads of which each moment is drawn out, and roads of any numbers."""

    def test_drawn_out(self):
        source = random.Random(57)
        for _ in range(150):
            cycle, times = source.choice([1, 3, 10, 25]), source.choice([7, 10 ** 15, 2 * 10 ** 28])
            seed, many, depth = source.randrange(10 ** 9), source.randint(1, 10), source.choice([0, 2, 3])
            small = Road(cycle, chance_text(random.Random(seed), cycle, many, depth))
            great = Road(cycle * times, chance_text(random.Random(seed), cycle, many, depth, times))
            self.assertEqual(great.passes, small.passes)
            for start in range(-cycle, 2 * cycle):
                self.assertEqual(great(start * times), small(start) * times)
                rows = [(index, arrival * times, passing * times) for index, arrival, passing in drive(small, start)]
                self.assertEqual(drive(great, start * times), rows)

    def test_any_numbers(self):
        source = random.Random(58)
        for cycle in (GREAT, GREAT - 1, 10 ** 9 + 7):
            for _ in range(40):
                text = chance_text(source, cycle, source.randint(1, 12), source.choice([0, 1, 3]))
                road, tree = Road(cycle, text), model_tree(text)
                self.assertTrue(is_one_form(cycle, road.passage().runs))
                self.assertTrue(adds_up_at_most(road))
                starts = near_edges(road.passage()) + [source.randint(-10 ** 90, 10 ** 90) for _ in range(10)]
                for start in starts:
                    seen, arrival = model_drive(cycle, tree, start)
                    self.assertEqual([road(start), drive(road, start)], [arrival, seen])

    def test_known_answers(self):
        half = GREAT // 2
        road = Road(GREAT, f"s:0+{half} {GREAT} s:{half}+{half}")
        self.assertEqual(road.passage().runs, ((half - 1, half - 1, GREAT + half),))
        road = Road(GREAT, f"s:{GREAT - 1}+2 {GREAT}")
        self.assertEqual(road.passage().runs, ((GREAT - 1, GREAT, 2 * GREAT - 1),))
        self.assertEqual([road(1), road(-1), road(-GREAT + 2)], [2 * GREAT - 1, GREAT - 1, GREAT - 1])
        self.assertEqual(road.travel, GREAT)

    def test_far_away(self):
        road = Road(10, "{ s:0+2 5 | 9 }")
        for turns in (10 ** 98, -10 ** 98, -10):
            arrivals = [road(start + turns) - turns for start in range(10)]
            self.assertEqual(arrivals, [5, 6, 11, 12, 13, 14, 15, 15, 15, 15])


class LargeRoads(unittest.TestCase):
    def check_pointwise(self, road, source, many=30):
        tree = model_tree(road.text)
        starts = near_edges(road.passage())
        starts = starts if len(starts) < many else source.sample(starts, many)
        for start in starts + [source.randint(-3 * road.cycle, 3 * road.cycle) for _ in range(10)]:
            seen, arrival = model_drive(road.cycle, tree, start)
            self.assertEqual([road(start), drive(road, start)], [arrival, seen])

    def test_two_hundred_signals_with_short_reds(self):
        source = random.Random(59)
        pairs = [f"s:{source.randrange(GREAT)}+{GREAT - GREAT // 1000} {source.randrange(GREAT)}" for _ in range(200)]
        road = Road(GREAT, " ".join(pairs))
        self.assertGreater(len(road.passage().runs), 100)
        self.check_pointwise(road, source)
        needless = needless_signals(road)
        for index in [*needless, *source.sample(range(200), 10)]:
            other = Road(GREAT, always_green(road.text, index, GREAT))
            self.assertIs(same_roads(road, other), index in needless)

    def test_sixty_roads_in_brackets(self):
        source = random.Random(60)
        for start, sign, end in [("{", "|", "}"), ("<", "&", ">")]:
            roads = [f"s:{source.randrange(GREAT)}+{GREAT // 300} {source.randrange(GREAT)}" for _ in range(60)]
            roads[40] = ""
            road = Road(GREAT, f"{start} " + f" {sign} ".join(roads).replace("  ", " ") + f" {end}")
            self.check_pointwise(road, source)
            self.assertEqual(len(road.signals), 59)

    def test_about_four_hundred_words_in_eight_brackets(self):
        source, sizes = random.Random(62), []
        while len(sizes) < 8:
            cycle = source.choice([30, 10 ** 6, GREAT])
            words = chance_words(source, cycle, source.choice([30, 60, 90]), 8)
            if not 250 <= len(words) <= 400:
                continue
            try:
                road = Road(cycle, " ".join(words))
            except TooLarge:
                continue
            sizes.append(len(words))
            self.check_pointwise(road, source)
            self.assertEqual(road.passes, tuple(model_passes(model_tree(road.text))))
            needless = needless_signals(road)
            for index in source.sample(range(len(road.signals)), min(5, len(road.signals))):
                other = Road(cycle, always_green(road.text, index, cycle))
                self.assertIs(same_roads(road, other), index in needless)

    def test_forty_times_forty(self):
        source = random.Random(61)
        road = Road(997, "( ( 3 )40 s:0+800 )40")
        self.assertEqual([road.travel, len(road.passes)], [4800, 40])
        self.check_pointwise(road, source)
        road = Road(GREAT, "( { s:0+7 5 | s:9+400 77 } )40 s:5+1")
        self.check_pointwise(road, source)
        self.assertEqual(Road(GREAT, f"( ( {GREAT} )40 )40").travel, 1600 * GREAT)
        self.assertEqual(Road(GREAT, f"( ( {GREAT} )40 )40")(-3), 1600 * GREAT - 3)

    def test_brackets_without_travels_and_signals(self):
        empty = "( " * 7 + "{ | }" + " )40" * 7
        road = Road(10, empty)
        self.assertEqual([road(3), drive(road, 3), needless_signals(road), road.passes], [3, [], [], ()])
        road = Road(10, f"s:0+4 {empty} 3 {empty} s:5+4")
        self.assertEqual([road.passage().runs, drive(road, 1)], [((2, 3, 5),), [(0, 1, 1), (1, 4, 5)]])
        wide = "( ( " + "{ " * 6 + "5 |" + " |" * 50 + " }" + (" |" * 50 + " }") * 5 + " )40 )40"
        self.assertEqual([Road(10, wide)(7), drive(Road(10, wide), 7)], [7, []])


if __name__ == "__main__":
    unittest.main()
