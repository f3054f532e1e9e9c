"""Section 7 of the interface: plain roads driven lap by lap."""
import random
import unittest
from math import gcd

from greenroads.roads import Road
from greenroads.rounds import (
    after_laps, first_wait, free_offsets, free_starts, next_wait, pace, ring, total_wait, wait_points)
from greenroads.signals import first_hit, is_green, shortest_greens
from tests.lap_model import (
    chance_round, flat_road, is_free, lap_table, model_ring, model_wait_points, moved_signal, rests_in_rows,
    table_power, waits_from)

GREAT = 10 ** 30
# Roads with and without free starts, with repeats, with a travel of 0 ahead of and behind signals.
TEXTS = [
    "5", "10", "1", "s:0+10 1", "s:0+3,5+3 5", "s:0+6 1", "s:0+6 10", "s:0+1 3", "s:0+5 5 s:5+5 5", "5 s:0+5",
    "s:0+5 4 s:5+5 5", "s:0+4 s:2+4 5", "s:0+4 s:4+4 5", "( s:0+3 5 )2", "( s:0+3 2 )40", "( ( s:0+7 1 )2 s:3+7 )3 4",
    "s:0+2,5+2 0 s:1+2,6+2 5", "s:0+3,5+3 4 s:0+1,5+1 1", "s:9+3 20", "s:9+9 7 s:4+9 3", "2 ( 4 )2 s:9+1,4+1 ( 5 )1"]


def chance_rounds(seed, many, cycles=(1, 2, 3, 4, 6, 9, 10, 12)):
    source = random.Random(seed)
    for _ in range(many):
        cycle = source.choice(cycles)
        yield source, cycle, chance_round(source, cycle, source.randint(1, 7))


def all_rounds(seed, many):
    source = random.Random(seed)
    for text in TEXTS:
        yield source, 10, text
    yield from chance_rounds(seed, many)


class SmallRounds(unittest.TestCase):
    def test_after_laps_and_total_wait(self):
        for source, cycle, text in all_rounds(101, 150):
            road, flat = Road(cycle, text), flat_road(text)
            for start in [*range(-2, cycle + 2), -10 ** 40]:
                for laps in [0, 1, 2, source.randint(3, 3 * cycle)]:
                    waits, moment = waits_from(cycle, flat, start, laps)
                    self.assertEqual(after_laps(road, start, laps), moment)
                    self.assertEqual(total_wait(road, start, laps), sum(row[3] - row[2] for row in waits))

    def test_first_wait(self):
        for _, cycle, text in all_rounds(102, 200):
            road, flat = Road(cycle, text), flat_road(text)
            for start in range(-cycle, cycle + 1):
                waits, _ = waits_from(cycle, flat, start, cycle)
                self.assertEqual(first_wait(road, start), waits[0] if waits else None)

    def test_free_starts(self):
        for _, cycle, text in all_rounds(103, 200):
            road, flat = Road(cycle, text), flat_road(text)
            divisor = gcd(road.travel, cycle)
            free = [start for start in range(cycle) if is_free(cycle, flat, start)]
            rests = [rest for rest in range(divisor) if rest in free]
            # A start is free exactly if each start with the same rest is.
            self.assertEqual(free, [start for start in range(cycle) if start % divisor in rests])
            self.assertEqual(free_starts(road), (divisor, rests_in_rows(rests)))

    def test_wait_points_and_next_wait(self):
        for _, cycle, text in all_rounds(104, 200):
            road, flat = Road(cycle, text), flat_road(text)
            points = model_wait_points(cycle, flat)
            self.assertEqual(wait_points(road), points)
            for point in points:
                waits, _ = waits_from(cycle, flat, point, cycle + 1)
                wanted = (waits[0][0], (waits[0][1], waits[0][3] % cycle)) if waits else None
                self.assertEqual(next_wait(road, point), wanted)

    def test_rings_and_pace(self):
        for _, cycle, text in all_rounds(105, 150):
            road, flat = Road(cycle, text), flat_road(text)
            rings = [model_ring(cycle, flat, start) for start in range(-1, cycle + 1)]
            self.assertEqual([ring(road, start) for start in range(-1, cycle + 1)], rings)
            paces = {(found[3] // gcd(*found[2:]), found[2] // gcd(*found[2:])) for found in rings if found}
            self.assertEqual({found is None for found in rings}, {len(free_starts(road)[1]) > 0})
            self.assertEqual({pace(road)}, paces or {(road.travel, 1)})

    def test_all_rings_take_the_same_time(self):
        many = 0
        for _, cycle, text in chance_rounds(106, 300, (10, 12, 18, 30)):
            road = Road(cycle, text)
            rings = [ring(road, start) for start in range(cycle)]
            if None not in rings:
                self.assertEqual(len({found[2:] for found in rings}), 1)
                self.assertTrue(all(found[0] <= len(wait_points(road)) for found in rings))
                many += len({frozenset(found[1]) for found in rings}) > 1
        self.assertGreater(many, 5)

    def test_few_waits_where_starts_are_free(self):
        many = 0
        for _, cycle, text in all_rounds(107, 200):
            road, flat = Road(cycle, text), flat_road(text)
            if free_starts(road)[1]:
                for start in range(cycle):
                    waits, _ = waits_from(cycle, flat, start, 2 * cycle)
                    points = [(at, passing % cycle) for _, at, _, passing in waits]
                    self.assertEqual(len(points), len(set(points)))
                    self.assertLess(total_wait(road, start, GREAT), cycle)
                    self.assertEqual(total_wait(road, start, GREAT), sum(row[3] - row[2] for row in waits))
                    many += len(points) > 1
        self.assertGreater(many, 20)

    def test_free_offsets(self):
        for _, cycle, text in all_rounds(108, 100):
            road = Road(cycle, text)
            divisor = gcd(road.travel, cycle)
            for index in range(len(road.signals)):
                rests = [ticks for ticks in range(divisor) if any(
                    is_free(cycle, flat_road(moved_signal(text, index, ticks, cycle)), start)
                    for start in range(divisor))]
                self.assertEqual(free_offsets(road, index), (divisor, rests_in_rows(rests)))

    def test_great_numbers_of_laps(self):
        for source, cycle, text in all_rounds(109, 100):
            road, table = Road(cycle, text), lap_table(cycle, text)
            for laps in (GREAT, GREAT - 1, source.randint(0, GREAT), source.randint(0, 10 ** 6)):
                power = table_power(table, laps)
                for start in [*range(cycle), -cycle - 1, 10 ** 90]:
                    self.assertEqual(after_laps(road, start, laps), power(start))
                    self.assertEqual(total_wait(road, start, laps), power(start) - start - laps * road.travel)

    def test_known_answers(self):
        road = Road(10, "s:0+3,5+3 5")
        self.assertEqual([ring(road, 4), pace(road), wait_points(road)], [None, (5, 1), [(0, 0), (0, 5)]])
        self.assertEqual([next_wait(road, (0, 0)), next_wait(road, (0, 5))], [None, None])
        road = Road(10, "s:0+6 1")
        self.assertEqual([ring(road, 7), next_wait(road, (0, 0))], [(0, [(0, 0)], 6, 10), (6, (0, 0))])
        # Without any signal all starts are free.
        road = Road(10, "4")
        self.assertEqual([free_starts(road), wait_points(road), pace(road)], [(2, [(0, 1)]), [], (4, 1)])
        self.assertEqual([first_wait(road, 3), ring(road, 3), after_laps(road, 3, GREAT)], [None, None, 3 + 4 * GREAT])
        # Always green, and green at no rest.
        self.assertEqual(free_starts(Road(10, "s:3+10 10")), (10, [(0, 9)]))
        self.assertEqual(free_starts(Road(10, "s:0+5 10 s:5+5")), (10, []))
        # No stretch goes over the end.
        self.assertEqual(free_starts(Road(10, "s:8+4 10")), (10, [(0, 1), (8, 9)]))
        self.assertEqual(free_offsets(Road(10, "s:0+4 10 s:2+1 10"), 1), (10, [(0, 1), (8, 9)]))
        self.assertEqual(free_offsets(Road(10, "s:0+4 10 s:2+1 10"), 0), (10, [(0, 2), (9, 9)]))
        # The first wait may be far behind the start of a lap, and several may be in one lap.
        self.assertEqual(first_wait(Road(10, "s:0+1 10 s:3+9 10 s:2+1"), 0), (0, 2, 20, 22))
        self.assertEqual(ring(Road(10, "s:0+1 s:1+1 s:2+1 1"), 5), (0, [(0, 0), (1, 1), (2, 2)], 1, 10))
        # The pass ahead of the wait point is met a lap later than the one behind it, which is met over the end.
        self.assertEqual(next_wait(Road(10, "s:7+9 s:0+9 s:3+9 4"), (1, 0)), (3, (2, 3)))

    def test_a_road_stays_as_it_is(self):
        road = Road(10, "s:0+3,5+3 4 s:0+1,5+1 2")
        told = dict(vars(road))
        calls = [lambda: free_starts(road), lambda: wait_points(road), lambda: ring(road, 3), lambda: pace(road),
                 lambda: free_offsets(road, 1), lambda: next_wait(road, (0, 5)), lambda: first_wait(road, 3)]
        found = [call() for call in calls]
        free_starts(road)[1].append(5)
        wait_points(road).clear()
        ring(road, 3)[1].clear()
        free_offsets(road, 1)[1].clear()
        self.assertEqual([call() for call in calls], found)
        self.assertEqual(vars(road), told)


class GreatRounds(unittest.TestCase):
    """Cycles up to 10 ** 30: small roads of which each moment is drawn out, and roads of any numbers."""

    def test_drawn_out(self):
        source = random.Random(110)
        for _ in range(120):
            cycle, times = source.choice([1, 3, 10, 12, 25]), source.choice([7, 10 ** 15 + 1, 10 ** 30 // 25])
            seed, many = source.randrange(10 ** 9), source.randint(1, 9)
            text = chance_round(random.Random(seed), cycle, many)
            # The same chances, but what would be more than 10 ** 30 is less.
            great_text = chance_round(random.Random(seed), cycle, many, times)
            small, great = Road(cycle, text), Road(cycle * times, great_text)
            if great.travel != small.travel * times:
                continue
            divisor, rows = free_starts(small)
            wanted = (divisor * times, [(low * times, high * times + times - 1) for low, high in rows])
            self.assertEqual(free_starts(great), wanted)
            self.assertEqual(wait_points(great), [(at, moment * times) for at, moment in wait_points(small)])
            time, laps = pace(small)
            common = gcd(time * times, laps)
            self.assertEqual(pace(great), (time * times // common, laps // common))
            for at, moment in wait_points(small):
                found = next_wait(small, (at, moment))
                wanted = found and (found[0], (found[1][0], found[1][1] * times))
                self.assertEqual(next_wait(great, (at, moment * times)), wanted)
            for start in source.sample(range(-2 * cycle, 2 * cycle), min(5, cycle)):
                self.check_start(small, great, start, times)
            for index in range(len(small.signals)):
                self.check_offsets(free_offsets(small, index), free_offsets(great, index), times)

    def check_start(self, small, great, start, times):
        for laps in (0, 1, 17, GREAT):
            self.assertEqual(after_laps(great, start * times, laps), after_laps(small, start, laps) * times)
            self.assertEqual(total_wait(great, start * times, laps), total_wait(small, start, laps) * times)
        found = first_wait(small, start)
        wanted = found and (found[0], found[1], found[2] * times, found[3] * times)
        self.assertEqual(first_wait(great, start * times), wanted)
        found = ring(small, start)
        wanted = found and (found[0], [(at, moment * times) for at, moment in found[1]], found[2], found[3] * times)
        self.assertEqual(ring(great, start * times), wanted)

    def check_offsets(self, small, great, times):
        self.assertEqual(great[0], small[0] * times)
        for ticks in range(small[0]):
            inside = any(low <= ticks <= high for low, high in small[1])
            self.assertIs(any(low <= ticks * times <= high for low, high in great[1]), inside)

    def test_first_waits_of_any_numbers(self):
        source = random.Random(111)
        for road in some_great_rounds(source, 40):
            flat = flat_road(road.text)
            for start in (0, source.randint(-10 ** 60, 10 ** 60), source.randrange(GREAT)):
                found = first_wait(road, start)
                self.assertEqual(found, first_by_reds(road, flat, start))
                if found is not None:
                    lap, at, arrival, passing = found
                    self.assertEqual(after_laps(road, start, lap), start + lap * road.travel)
                    signal = road.signals[road.passes[at]]
                    self.assertFalse(is_green(road.cycle, signal, arrival))
                    self.assertIn((at, passing % road.cycle), wait_points(road))
                    if lap < GREAT:
                        self.assertGreaterEqual(total_wait(road, start, lap + 1), passing - arrival)

    def test_laps_behind_laps(self):
        source = random.Random(112)
        for road in some_great_rounds(source, 25):
            for _ in range(5):
                start, laps = source.randint(-10 ** 40, 10 ** 40), source.randint(0, 10 ** source.randint(1, 29))
                more = source.randint(0, 10 ** source.randint(1, 29))
                middle = after_laps(road, start, laps)
                self.assertEqual(after_laps(road, middle, more), after_laps(road, start, laps + more))
                self.assertEqual(after_laps(road, start, laps), middle)
            self.assertEqual(after_laps(road, 5, 1), road(5))

    def test_rings_of_any_numbers(self):
        source = random.Random(113)
        rings = 0
        for road in some_great_rounds(source, 25):
            start = source.randrange(GREAT)
            found = ring(road, start)
            self.assertIs(found is None, len(free_starts(road)[1]) > 0)
            if found is None:
                self.assertLess(total_wait(road, start, GREAT), road.cycle)
                continue
            rings += 1
            _, points, laps, time = found
            walked = sum(next_wait(road, point)[0] for point in points)
            self.assertEqual(walked, laps)
            self.assertEqual([next_wait(road, point)[1] for point in points], points[1:] + points[:1])
            self.assertEqual(pace(road), (time // gcd(time, laps), laps // gcd(time, laps)))
            if laps <= 10 ** 15:
                behind = 10 ** 29
                gained = after_laps(road, start, behind + laps) - after_laps(road, start, behind)
                self.assertEqual(gained, time)
        self.assertGreater(rings, 8)

    def test_free_starts_of_any_numbers(self):
        source = random.Random(114)
        frees = 0
        for road in some_great_rounds(source, 60):
            divisor, rows = free_starts(road)
            self.assertEqual(divisor, gcd(road.travel, road.cycle))
            for low, high in rows:
                frees += 1
                for rest in (low, high, source.randint(low, high)):
                    self.assertIsNone(first_wait(road, rest + source.randint(-10 ** 9, 10 ** 9) * divisor))
                for rest in (low - 1, high + 1):
                    if 0 <= rest < divisor:
                        self.assertIsNotNone(first_wait(road, rest))
            for index in range(min(3, len(road.signals))):
                _, offsets = free_offsets(road, index)
                for low, high in offsets[:3]:
                    for ticks in (low, high):
                        self.assertTrue(free_starts(moved_road(road, index, ticks))[1])
                    for ticks in (low - 1, high + 1):
                        if 0 <= ticks < divisor:
                            self.assertFalse(free_starts(moved_road(road, index, ticks))[1])
        self.assertGreater(frees, 20)

    def test_two_hundred_passes(self):
        source = random.Random(115)
        for short in (10 ** 3, 10 ** 26, 10 ** 28):
            pairs = [f"s:{source.randrange(GREAT)}+{GREAT - source.randint(1, short)} {source.randrange(GREAT)}"
                     for _ in range(200)]
            road = Road(GREAT, " ".join(pairs))
            self.assertEqual(len(wait_points(road)), 200)
            ahead, points, laps, time = ring(road, 7)
            self.assertEqual(pace(road), (time // gcd(time, laps), laps // gcd(time, laps)))
            self.assertEqual(len(set(points)), len(points))
            middle = after_laps(road, 7, GREAT // 3)
            self.assertEqual(after_laps(road, middle, GREAT // 3), after_laps(road, 7, GREAT // 3 * 2))
            self.assertLessEqual(ahead, 200)

    def test_one_signal_passed_forty_times(self):
        # A lap takes the cycle and 440 ticks, and the passes are 11 ticks apart: which one is red first?
        road = Road(GREAT, f"( s:7+{GREAT // 2} 11 )40 {GREAT}")
        self.assertEqual([len(road.passes), len(wait_points(road)), free_starts(road)[1]], [40, 40, []])
        laps, rest = divmod(GREAT // 2, 440)
        at = -(-rest // 11)
        green = 7 + GREAT * (laps + 1)
        self.assertEqual(first_wait(road, 7), (laps, at, 7 + laps * (GREAT + 440) + 11 * at, green))
        # Half of the cycle is waited whenever the passes have gone through the green half.
        ahead, points, many, time = ring(road, 7)
        self.assertEqual([ahead, points[0], time % GREAT], [0, (at, 7), 0])
        self.assertEqual(pace(road), (time // gcd(time, many), many // gcd(time, many)))


def moved_road(road, index, ticks):
    return Road(road.cycle, moved_signal(road.text, index, ticks, road.cycle))


def some_great_rounds(source, many):
    """Roads of great cycles: with short reds, with long ones, with travels that have a great common divisor."""
    for _ in range(many):
        cycle = source.choice([GREAT, GREAT - 1, 2 ** 90, 10 ** 18])
        step = source.choice([1, 1, cycle // 10 if cycle % 10 == 0 else cycle // 3, 2 ** 18])
        words = []
        for _ in range(source.choice([1, 2, 3, 8])):
            red = source.choice([1, 10 ** 6, cycle // 10 ** 3, cycle // 50, cycle // 3])
            offset = source.randrange(cycle)
            words.append(source.choice([
                f"s:{offset}+{cycle - source.randint(1, red)}",
                f"s:{offset}+{cycle // 2},{(offset + cycle // 2 + red // 2) % cycle}+{cycle // 3}"]))
            words.append(str(source.randint(1, cycle // step) * step))
        total = sum(int(word) for word in words[1::2])
        words.append(str(-total % step))
        yield Road(cycle, " ".join(words))


def first_by_reds(road, flat, start):
    """The first wait, by first_hit for each red of each pass."""
    best, ticks = None, 0
    for at, (travel, _) in enumerate(flat[0]):
        ticks += travel
        greens = shortest_greens(road.cycle, road.signals[road.passes[at]])
        ahead = [*greens[1:], (greens[0][0] + road.cycle, 0)]
        for (offset, length), after in zip(greens, ahead):
            many = after[0] - offset - length
            if many > 0:
                lap = first_hit(road.cycle, start + ticks, road.travel, offset + length, many)
                if lap is not None and (best is None or (lap, at) < best[:2]):
                    arrival = start + ticks + lap * road.travel
                    passing = arrival - (arrival - offset - length) % road.cycle + many
                    best = (lap, at, arrival, passing)
    return best


if __name__ == "__main__":
    unittest.main()
