"""Section 6 of the interface: windows."""
import random
import unittest

from greenroads.errors import Backward, TooLarge
from greenroads.passages import Passage, pass_of, travel_of
from greenroads.roads import Road
from greenroads.windows import fewest_windows, from_windows, road_of
from tests.model import Table, all_tables, chance_table, drawn_out, great_passage, near_edges, passage_of
from tests.road_model import chance_text, passing_of

GREAT = 10 ** 30


def forward(table):
    """The table with all arrivals later, so that no duration is below 0."""
    late = -min(table(start) - start for start in range(table.cycle))
    return Table([arrival + max(0, late) for arrival in table.row])


def some_tables():
    for cycle in range(1, 6):
        for table in all_tables(cycle, range(0, 3)):
            if min(table(start) - start for start in range(cycle)) >= 0:
                yield table
    source = random.Random(81)
    for cycle in [6, 7, 9, 13, 21, 40]:
        for steps in (30, 100, 300, 600, 800, 950):
            for _ in range(6):
                yield forward(chance_table(source, cycle, steps))


def model_windows(table):
    """The windows of point 9 by its words."""
    cycle, found = table.cycle, []
    lasts = [start for start in range(cycle) if table(start + 1) > table(start)]
    for travel in {table(start) - start for start in lasts}:
        own = [start for start in lasts if table(start) - start == travel]
        neighbours = list(zip(own, own[1:] + [own[0] + cycle]))
        parted = [any(table(start) - start > travel for start in range(one + 1, other)) for one, other in neighbours]
        if not any(parted):
            found.append((0, cycle - 1, travel))
            continue
        # From the start behind a parting to the next parting.
        begun = None
        for (one, other), apart in list(zip(neighbours, parted)) * 2:
            if apart:
                if begun is not None:
                    last = one if one >= begun else one + cycle
                    found.append((begun, last, travel))
                begun = other % cycle
    return sorted(set(found))


def window_table(cycle, window):
    """The table of one window: a green signal, and a travel behind it."""
    first, last, travel = window
    row = []
    for start in range(cycle):
        moment = start
        while (moment - first) % cycle > last - first:
            moment += 1
        row.append(moment + travel)
    return Table(row)


def cover_size(table):
    """The number of windows that are needed at least, found by trying all of them."""
    cycle = table.cycle
    covers = set()
    for first in range(cycle):
        for last in range(first, first + cycle):
            for travel in range(max(table(start) - start for start in range(cycle)) + 1):
                row = window_table(cycle, (first, last, travel)).row
                if all(mine >= wanted for mine, wanted in zip(row, table.row)):
                    covers.add(frozenset(at for at in range(cycle) if row[at] == table.row[at]))
    size, reached = 0, {frozenset()}
    while frozenset(range(cycle)) not in reached:
        size += 1
        reached = {one | other for one in reached for other in covers}
    return size


def sooner_table(cycle, windows):
    rows = [window_table(cycle, window).row for window in windows]
    return Table([min(arrivals) for arrivals in zip(*rows)])


class SmallWindows(unittest.TestCase):
    def test_fewest_windows(self):
        for table in some_tables():
            passage = passage_of(table)
            windows = fewest_windows(passage)
            self.assertEqual(windows, model_windows(table))
            self.assertEqual(sooner_table(table.cycle, windows).row, table.row)
            self.assertTrue(from_windows(table.cycle, windows) == passage)

    def test_they_are_as_few_as_possible(self):
        source = random.Random(82)
        tables = [table for table in some_tables() if table.cycle <= 5]
        for table in source.sample(tables, 250):
            self.assertEqual(len(fewest_windows(passage_of(table))), cover_size(table))

    def test_each_is_a_window(self):
        for table in some_tables():
            for first, last, travel in fewest_windows(passage_of(table)):
                self.assertTrue(0 <= first < table.cycle and first <= last < first + table.cycle and travel >= 0)

    def test_from_windows(self):
        source = random.Random(83)
        for _ in range(400):
            cycle = source.choice([1, 2, 3, 8, 20])
            windows = []
            for _ in range(source.choice([1, 2, 3, 10])):
                first = source.randrange(cycle)
                windows.append((first, source.randint(first, first + cycle - 1), source.randint(0, 2 * cycle)))
            passage = from_windows(cycle, windows)
            table = sooner_table(cycle, windows)
            self.assertEqual([passage(start) for start in range(-cycle, 2 * cycle)],
                             [table(start) for start in range(-cycle, 2 * cycle)])
            self.assertLessEqual(len(fewest_windows(passage)), len(windows))

    def test_edges(self):
        self.assertEqual(fewest_windows(travel_of(10, 0)), [(0, 9, 0)])
        self.assertEqual(fewest_windows(travel_of(10, 7)), [(0, 9, 7)])
        self.assertEqual(fewest_windows(pass_of(10, ((8, 4),))), [(8, 11, 0)])
        self.assertEqual(fewest_windows(pass_of(10, ((0, 2), (5, 1)))), [(0, 1, 0), (5, 5, 0)])
        self.assertEqual(fewest_windows(travel_of(1, 3)), [(0, 0, 3)])
        # A travel of 9 is parted nowhere, as no start takes longer: also not by those that take as long.
        self.assertEqual(fewest_windows(pass_of(10, ((0, 1),)) | travel_of(10, 9)), [(0, 0, 0)])
        self.assertEqual(fewest_windows(pass_of(10, ((0, 1),)) | travel_of(10, 5)), [(0, 0, 0), (0, 9, 5)])
        self.assertEqual(from_windows(10, [(3, 12, 4)]).runs, ((0, 9, 4),))
        self.assertEqual(from_windows(10, [(8, 11, 4), (8, 11, 4), (2, 2, 30)]).runs, ((8, 11, 12),))

    def test_windows_stay_as_they_are(self):
        windows = [(2, 5, 3), (0, 9, 7), (2, 5, 3)]
        passage = from_windows(10, windows)
        self.assertEqual(windows, [(2, 5, 3), (0, 9, 7), (2, 5, 3)])
        windows.clear()
        self.assertEqual(passage.runs, ((2, 5, 5), (6, 7, 13)))
        fewest_windows(passage).clear()
        self.assertEqual(fewest_windows(passage), [(0, 9, 7), (2, 5, 3)])


class Texts(unittest.TestCase):
    def text_by_words(self, cycle, windows):
        texts = []
        for first, last, travel in windows:
            words = [] if last - first + 1 == cycle else [f"s:{first}+{last - first + 1}"]
            texts.append(" ".join(words + ([] if travel == 0 else [str(travel)])))
        return texts[0] if len(texts) == 1 else "{ " + " | ".join(texts) + " }"

    def test_road_of(self):
        for table in some_tables():
            passage = passage_of(table)
            road = road_of(passage)
            self.assertIs(type(road), Road)
            self.assertEqual(road.cycle, table.cycle)
            self.assertEqual(road.text, self.text_by_words(table.cycle, model_windows(table)))
            self.assertTrue(road.passage() == passage)
            self.assertTrue(road == road_of(road.passage()))

    def test_edges(self):
        for passage, text in [
                (travel_of(10, 0), ""), (travel_of(10, 7), "7"), (pass_of(10, ((8, 4),)), "s:8+4"),
                (pass_of(10, ((8, 4),)) + travel_of(10, 3), "s:8+4 3"), (travel_of(GREAT, GREAT), str(GREAT)),
                (pass_of(10, ((0, 2), (5, 1))), "{ s:0+2 | s:5+1 }"),
                (pass_of(10, ((0, 1),)) | travel_of(10, 5), "{ s:0+1 | 5 }"),
                (pass_of(10, ((0, 1),)) | pass_of(10, ((2, 1),)) + travel_of(10, 3), "{ s:0+1 | s:2+1 3 }")]:
            self.assertEqual(road_of(passage).text, text)
            self.assertTrue(road_of(passage).passage() == passage)

    def test_roads_of_roads(self):
        source = random.Random(84)
        for cycle in (10, 30, 10 ** 12, GREAT // 100):
            for _ in range(60):
                passage = Road(cycle, chance_text(source, cycle, source.randint(0, 8), 2)).passage()
                self.assertTrue(road_of(passage).passage() == passage)
                self.assertTrue(from_windows(cycle, fewest_windows(passage)) == passage)


class WrongWindows(unittest.TestCase):
    def check(self, error, limit, passage):
        with self.assertRaises(error) as caught:
            road_of(passage)
        self.assertEqual(getattr(caught.exception, "limit", None), limit)

    def many_windows(self, many, ticks=0):
        """A passage of so many windows: each signal's green is left by a long red."""
        return Passage(100 * many, tuple((100 * k, 100 * k, 100 * k + ticks) for k in range(many)))

    def test_backward(self):
        for passage in (travel_of(10, -1), Passage(10, ((2, 3, 1),)), Passage(10, ((0, 0, 0), (5, 5, 4))),
                        Passage(10, ((0, 0, 3), (7, 9, 6))), pass_of(GREAT, ((0, 1),)) + travel_of(GREAT, -1),
                        self.many_windows(70, -1)):
            self.assertRaises(Backward, fewest_windows, passage)
            self.check(Backward, None, passage)
        self.assertEqual(fewest_windows(Passage(10, ((0, 0, 0), (5, 5, 5)))), [(0, 0, 0), (5, 5, 0)])

    def test_sixty_windows(self):
        for many in (59, 60):
            passage = self.many_windows(many)
            self.assertEqual(len(fewest_windows(passage)), many)
            self.assertTrue(road_of(passage).passage() == passage)
        for many in (61, 100):
            passage = self.many_windows(many)
            self.assertEqual(len(fewest_windows(passage)), many)
            self.check(TooLarge, 60, passage)

    def test_great_travels(self):
        for cycle in (1, 10, GREAT):
            self.assertEqual(road_of(travel_of(cycle, GREAT)).text, str(GREAT))
            self.check(TooLarge, GREAT, travel_of(cycle, GREAT + 1))
            self.assertEqual(fewest_windows(travel_of(cycle, 10 ** 99)), [(0, cycle - 1, 10 ** 99)])
        self.check(TooLarge, GREAT, pass_of(10, ((0, 1),)) + travel_of(10, GREAT + 1))
        self.check(TooLarge, GREAT, pass_of(10, ((0, 1),)) + travel_of(10, GREAT - 5) | travel_of(10, GREAT + 1))
        self.assertEqual(road_of(pass_of(10, ((0, 1),)) + travel_of(10, GREAT)).text, f"s:0+1 {GREAT}")

    def test_the_number_of_windows_comes_first(self):
        self.check(TooLarge, 60, self.many_windows(61, GREAT + 1))
        self.check(TooLarge, GREAT, self.many_windows(60, GREAT + 1))
        self.check(TooLarge, 60, self.many_windows(61, GREAT))


class GreatWindows(unittest.TestCase):
    def test_drawn_out(self):
        source = random.Random(85)
        for table in some_tables():
            if source.randrange(4) == 0:
                times = source.choice([7, 10 ** 20 + 39, GREAT // table.cycle])
                passage = drawn_out(passage_of(table), times)
                windows = [(first * times, last * times + times - 1, travel * times)
                           for first, last, travel in model_windows(table)]
                self.assertEqual(fewest_windows(passage), windows)
                self.assertTrue(from_windows(table.cycle * times, windows) == passage)

    def test_many_runs(self):
        source = random.Random(86)
        for many in (2, 30, 400, 1500):
            passage = great_passage(source, GREAT, many)
            passage = passage + travel_of(GREAT, 4 * GREAT)
            windows = fewest_windows(passage)
            self.assertEqual(windows, sorted(windows))
            self.assertTrue(from_windows(GREAT, windows) == passage)

    def test_five_hundred_windows(self):
        source = random.Random(87)
        windows = []
        for _ in range(500):
            first = source.randrange(GREAT)
            windows.append((first, first + source.randrange(GREAT // 300), source.randrange(GREAT // 100)))
        passage = from_windows(GREAT, windows)
        self.assertGreater(len(passage.runs), 200)
        for start in near_edges(passage)[:300] + [source.randint(-10 ** 60, 10 ** 60) for _ in range(30)]:
            arrivals = [passing_of(GREAT, [(first, last - first + 1)], start) + travel
                        for first, last, travel in windows]
            self.assertEqual(passage(start), min(arrivals))
        self.assertTrue(from_windows(GREAT, fewest_windows(passage)) == passage)

    def test_known_answers(self):
        passage = from_windows(GREAT, [(GREAT - 1, 2 * GREAT - 2, 10 ** 99)])
        self.assertEqual(passage.runs, ((0, GREAT - 1, 10 ** 99),))
        self.assertEqual(fewest_windows(passage), [(0, GREAT - 1, 10 ** 99)])
        passage = from_windows(GREAT, [(GREAT - 1, GREAT, 3)])
        self.assertEqual([passage(-2), passage(0), passage(1)], [2, 3, GREAT + 2])
        self.assertEqual(fewest_windows(passage), [(GREAT - 1, GREAT, 3)])


if __name__ == "__main__":
    unittest.main()
