"""Section 2 of the interface: signals, without first_hit."""
import random
import unittest
from itertools import product

from greenroads.signals import count_green, is_green, is_signal, last_green, next_green, shortest_greens
from tests.model import rows_in

GREAT = 10 ** 30


def greens_of(cycle):
    return [(offset, length) for offset in range(cycle) for length in range(1, cycle + 1)]


def small_signals():
    """All signals of one and two greens in small cycles, and some of three to six greens."""
    for cycle in range(1, 7):
        greens = greens_of(cycle)
        for green in greens:
            yield cycle, (green,)
        for pair in product(greens, greens):
            yield cycle, pair
    source = random.Random(2)
    for cycle in range(2, 25):
        for many in (3, 4, 5, 6):
            for _ in range(8):
                most = source.choice([1, 2, cycle // 3 + 1, cycle])
                yield cycle, tuple((source.randrange(cycle), source.randint(1, most)) for _ in range(many))


def green_by_words(cycle, signal, moment):
    return any((moment - offset) % cycle < length for offset, length in signal)


def model_shortest(cycle, signal):
    moments = [moment for moment in range(-cycle, 3 * cycle) if green_by_words(cycle, signal, moment)]
    if len(moments) == 4 * cycle:
        return ((0, cycle),)
    rows = rows_in(moments, lambda one, other: other == one + 1)
    return tuple((row[0], len(row)) for row in rows if 0 <= row[0] < cycle)


class SmallSignals(unittest.TestCase):
    def test_is_green_over_three_cycles(self):
        for cycle, signal in small_signals():
            for moment in range(-cycle, 2 * cycle):
                self.assertIs(is_green(cycle, signal, moment), green_by_words(cycle, signal, moment))

    def test_is_green_far_away(self):
        for moment in range(-20, 20):
            wanted = moment % 10 in (0, 8, 9)
            for turns in (10 ** 40, -10 ** 40, 10 ** 99, -10 ** 99):
                self.assertIs(is_green(10, ((8, 3),), moment + turns), wanted)

    def test_next_and_last_green(self):
        for cycle, signal in small_signals():
            for moment in range(-cycle - 1, cycle + 1):
                coming = passed = moment
                while not green_by_words(cycle, signal, coming):
                    coming += 1
                while not green_by_words(cycle, signal, passed):
                    passed -= 1
                self.assertEqual(next_green(cycle, signal, moment), coming)
                self.assertEqual(last_green(cycle, signal, moment), passed)

    def test_count_green(self):
        source = random.Random(3)
        for cycle, signal in small_signals():
            counted = {-2 * cycle: 0}
            for moment in range(-2 * cycle, 2 * cycle):
                counted[moment + 1] = counted[moment] + green_by_words(cycle, signal, moment)
            for _ in range(6):
                low, high = source.randint(-2 * cycle, 2 * cycle), source.randint(-2 * cycle, 2 * cycle)
                wanted = max(0, counted[high] - counted[low])
                self.assertEqual(count_green(cycle, signal, low, high), wanted)

    def test_count_green_where_there_are_none(self):
        self.assertEqual(count_green(10, ((0, 4),), 3, 3), 0)
        self.assertEqual(count_green(10, ((0, 4),), 4, 10), 0)
        self.assertEqual(count_green(10, ((0, 4),), 30, -30), 0)
        self.assertEqual(count_green(10, ((0, 10),), 10 ** 99, -10 ** 99), 0)

    def test_shortest_greens(self):
        for cycle, signal in small_signals():
            self.assertEqual(shortest_greens(cycle, signal), model_shortest(cycle, signal))

    def test_shortest_greens_at_the_end_of_the_cycle(self):
        self.assertEqual(shortest_greens(10, ((8, 2), (0, 2))), ((8, 4),))
        self.assertEqual(shortest_greens(10, ((8, 2),)), ((8, 2),))
        self.assertEqual(shortest_greens(10, ((5, 10),)), ((0, 10),))
        self.assertEqual(shortest_greens(10, ((5, 9),)), ((5, 9),))
        self.assertEqual(shortest_greens(10, ((5, 5), (0, 5))), ((0, 10),))
        self.assertEqual(shortest_greens(1, ((0, 1), (0, 1))), ((0, 1),))

    def test_arguments_stay_as_they_are(self):
        signal = ((8, 3), (1, 2), (5, 1))
        for call in (next_green, last_green, is_green):
            call(10, signal, 4)
        count_green(10, signal, 0, 9)
        shortest_greens(10, signal)
        self.assertEqual(signal, ((8, 3), (1, 2), (5, 1)))


class GreatSignals(unittest.TestCase):
    """A small signal of which each moment is drawn out to many moments."""

    def drawn_out(self):
        source = random.Random(4)
        for cycle, signal in small_signals():
            if source.randrange(12) == 0:
                times = source.choice([GREAT // cycle, 10 ** 20 + 39, 7])
                yield cycle, signal, times, tuple((offset * times, length * times) for offset, length in signal)

    def test_greens(self):
        source = random.Random(5)
        for cycle, signal, times, drawn in self.drawn_out():
            great = cycle * times
            wanted = tuple((offset * times, length * times) for offset, length in model_shortest(cycle, signal))
            self.assertEqual(shortest_greens(great, drawn), wanted)
            for block in range(-cycle, 2 * cycle):
                coming = next_green(cycle, signal, block)
                passed = last_green(cycle, signal, block)
                for moment in (block * times, block * times + times - 1, block * times + source.randrange(times)):
                    green = green_by_words(cycle, signal, block)
                    self.assertIs(is_green(great, drawn, moment), green)
                    self.assertEqual(next_green(great, drawn, moment), moment if green else coming * times)
                    self.assertEqual(last_green(great, drawn, moment), moment if green else passed * times + times - 1)

    def test_counts(self):
        source = random.Random(6)
        for cycle, signal, times, drawn in self.drawn_out():
            for _ in range(5):
                low, many = source.randint(-3 * cycle, 3 * cycle), source.randint(0, 3 * cycle)
                into, over = source.randrange(times), source.randrange(times)
                wanted = times * count_green(cycle, signal, low, low + many)
                wanted += over * green_by_words(cycle, signal, low + many)
                wanted -= into * green_by_words(cycle, signal, low)
                begin, end = low * times + into, (low + many) * times + over
                self.assertEqual(count_green(cycle * times, drawn, begin, end), max(0, wanted))

    def test_far_away(self):
        signal = ((0, 1), (GREAT - 1, 1))
        self.assertEqual(shortest_greens(GREAT, signal), ((GREAT - 1, 2),))
        self.assertEqual(next_green(GREAT, signal, 1), GREAT - 1)
        self.assertEqual(last_green(GREAT, signal, GREAT - 2), 0)
        self.assertEqual(next_green(GREAT, signal, 1 - 10 ** 99), GREAT - 1 - 10 ** 99)
        self.assertEqual(count_green(GREAT, signal, -10 ** 99, 10 ** 99), 4 * 10 ** 69)


class Kinds(unittest.TestCase):
    def test_signals(self):
        six = ((0, 1),) * 6
        for cycle, signal in [(10, ((0, 1),)), (10, ((9, 10),)), (1, ((0, 1),)), (10, six), (GREAT, ((GREAT - 1, GREAT),))]:
            self.assertIs(is_signal(signal, cycle), True)

    def test_values_of_other_kinds(self):
        deep = (0, 1)
        for _ in range(40):
            deep = (deep,)
        others = [
            None, True, 5, "", "0+4", b"0", [], {}, set(), (), object(), len, deep, [deep],
            [(0, 4)], ([0, 4],), ((0, 4), [0, 4]), (0, 4), ((0, 4, 1),), ((0,),), ((),), (((0, 4),),), ("04",),
            ((True, 4),), ((0, True),), ((False, 4),), (("0", 4),), ((0, None),), ((0, 4), None), {(0, 4): 1}, {(0, 4)},
            ((-1, 4),), ((10, 4),), ((0, 0),), ((0, -1),), ((0, 11),), ((0, 4), (10, 1)), ((0, 1),) * 7, range(2)]
        for value in others:
            with self.subTest(value):
                self.assertIs(is_signal(value, 10), False)


if __name__ == "__main__":
    unittest.main()
