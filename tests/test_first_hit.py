"""first_hit against going on step by step, and against counting for great cycles."""
import random
import unittest
from math import gcd

from greenroads.signals import first_hit

GREAT = 10 ** 30


def hit_by_steps(cycle, begin, step, first, length):
    for n in range(cycle):
        if (begin + n * step - first) % cycle < length:
            return n
    return None


def floor_sum(many, modulus, step, begin):
    """The sum of (begin + n * step) // modulus for n from 0 to below many, all from 0 on."""
    total = 0
    while True:
        total += many * (many - 1) // 2 * (step // modulus) + many * (begin // modulus)
        step, begin = step % modulus, begin % modulus
        reach = step * many + begin
        if reach < modulus:
            return total
        many, begin = divmod(reach, modulus)
        modulus, step = step, modulus


def hit_by_counting(cycle, begin, step, first, length):
    """The least n by halving: hits among the first n are counted by sums of whole quotients."""
    step, ahead = step % cycle, (begin - first) % cycle

    def hits(many):
        return floor_sum(many, cycle, step, ahead + cycle) - floor_sum(many, cycle, step, ahead + cycle - length)

    low, high = 0, cycle
    if hits(high) == 0:
        return None
    while low + 1 < high:
        middle = (low + high) // 2
        if hits(middle) > 0:
            high = middle
        else:
            low = middle
    return low


class FirstHit(unittest.TestCase):
    def test_all_of_small_cycles(self):
        for cycle in range(1, 8):
            for begin in range(cycle):
                for step in range(-cycle, cycle + 1):
                    for first in range(cycle):
                        for length in range(1, cycle + 1):
                            wanted = hit_by_steps(cycle, begin, step, first, length)
                            self.assertEqual(first_hit(cycle, begin, step, first, length), wanted)

    def test_all_distances_of_some_more_cycles(self):
        for cycle in range(8, 27):
            for step in range(cycle):
                for first in range(cycle):
                    for length in range(1, cycle + 1):
                        wanted = hit_by_steps(cycle, 5, step, first + 5, length)
                        self.assertEqual(first_hit(cycle, 5, step, first + 5, length), wanted)

    def test_middle_cycles(self):
        source = random.Random(7)
        for _ in range(3000):
            cycle = source.randint(1, 3000)
            begin, step, first = [source.randint(-3 * cycle, 3 * cycle) for _ in range(3)]
            length = source.choice([1, 1, 2, 5, source.randint(1, cycle)])
            length = min(length, cycle)
            wanted = hit_by_steps(cycle, begin, step, first, length)
            self.assertEqual(first_hit(cycle, begin, step, first, length), wanted)

    def test_numbers_far_away(self):
        self.assertEqual(first_hit(10, 10 ** 99, 10 ** 60 + 4, 3 - 10 ** 80, 2), 1)
        self.assertEqual(first_hit(10, -10 ** 99, -10 ** 60 - 4, 3, 1), None)

    def test_no_moment_is_met(self):
        self.assertIsNone(first_hit(10, 0, 0, 1, 9))
        self.assertIsNone(first_hit(10, 1, 5, 2, 4))
        self.assertIsNone(first_hit(GREAT, 0, 2, 1, 1))
        self.assertIsNone(first_hit(GREAT, 0, 0, 1, GREAT - 1))
        self.assertIsNone(first_hit(GREAT, 0, 10 ** 15, 1, 10 ** 15 - 1))

    def test_at_once_and_last_of_all(self):
        self.assertEqual(first_hit(GREAT, 7, 3, 7, 1), 0)
        self.assertEqual(first_hit(GREAT, 7, 3, 8, GREAT), 0)
        self.assertEqual(first_hit(GREAT, 0, 1, GREAT - 1, 1), GREAT - 1)
        self.assertEqual(first_hit(GREAT, 0, -1, 1, 1), GREAT - 1)
        self.assertEqual(first_hit(GREAT, 0, GREAT - 1, 5, 3), GREAT - 7)
        self.assertEqual(first_hit(1, 5, 5, 5, 1), 0)

    def test_one_moment_in_great_cycles(self):
        source = random.Random(8)
        for _ in range(400):
            cycle = source.randint(GREAT // 2, GREAT)
            begin, step, first = [source.randint(-GREAT, GREAT) for _ in range(3)]
            common = gcd(step, cycle)
            wanted = None
            if (first - begin) % common == 0:
                rest = cycle // common
                wanted = (first - begin) // common * pow(step // common, -1, rest) % rest
            self.assertEqual(first_hit(cycle, begin, step, first, 1), wanted)

    def test_stretches_in_great_cycles(self):
        source = random.Random(9)
        for _ in range(400):
            cycle = source.choice([GREAT, source.randint(1, GREAT), 2 ** 99, 3 ** 62])
            begin, first = source.randrange(cycle), source.randrange(cycle)
            common = source.choice([1, 1, 10 ** 3, 2 ** 40, 3 ** 30])
            step = common * source.randint(-GREAT // common, GREAT // common)
            length = source.randint(1, min(cycle, source.choice([3, 10 ** 6, 10 ** 15, GREAT])))
            wanted = hit_by_counting(cycle, begin, step, first, length)
            self.assertEqual(first_hit(cycle, begin, step, first, length), wanted)

    def test_slowest_of_all_steps(self):
        one, other = 1, 1
        while one + other <= GREAT:
            one, other = other, one + other
        for cycle, step in [(other, one), (one, other), (other, other - one)]:
            for length in (1, 2, 1000, 10 ** 14):
                wanted = hit_by_counting(cycle, 0, step, cycle // 3, length)
                self.assertEqual(first_hit(cycle, 0, step, cycle // 3, length), wanted)


if __name__ == "__main__":
    unittest.main()
