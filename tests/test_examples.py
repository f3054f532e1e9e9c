"""The examples of the document, as it writes them."""
import unittest

from greenroads.passages import Passage, first_difference, gaps, pass_of, platoons, travel_of
from greenroads.signals import count_green, first_hit, last_green, next_green, shortest_greens


class Examples(unittest.TestCase):
    def setUp(self):
        self.one = Passage(10, ((2, 3, 5),))
        self.two = Passage(10, ((0, 1, 5),))
        self.nine = Passage(10, ((0, 9, 9),))

    def test_signals(self):
        found = [next_green(10, ((0, 4),), 5), last_green(10, ((0, 4),), 5), count_green(10, ((0, 4),), 0, 25)]
        self.assertEqual(found, [10, 3, 12])
        self.assertEqual(shortest_greens(10, ((8, 3), (1, 2), (5, 1))), ((5, 1), (8, 5)))
        self.assertEqual([first_hit(10, 0, 4, 3, 2), first_hit(10, 0, 4, 5, 1)], [1, None])

    def test_passages(self):
        one, two, nine = self.one, self.two, self.nine
        found = [one(0), one(3), one(4), (two | nine).runs, (two & nine).runs, (one + two).runs]
        self.assertEqual(found, [5, 6, 15, ((0, 1, 5), (2, 5, 11)), ((6, 11, 15),), ((3, 3, 15),)])
        found = [platoons(one), gaps(one), one.latest().runs, first_difference(two, two | nine)]
        self.assertEqual(found, [[(4, 12, 15)], [(7, 14)], ((4, 4, -7), (5, 5, 2)), 2])
        self.assertIs(pass_of(10, ((0, 4),)) + travel_of(10, 3) + pass_of(10, ((5, 4),)) == one, True)

    def test_one_two_and_nine_as_roads(self):
        self.assertTrue(pass_of(10, ((0, 2),)) + travel_of(10, 5) == self.two)
        self.assertTrue(travel_of(10, 9) == self.nine)
        self.assertEqual([self.one(start) for start in range(13)], [5, 5, 5, 6] + [15] * 9)
        self.assertEqual(self.one.runs, ((2, 3, 5),))
        self.assertEqual(self.two.runs, ((0, 1, 5),))
        self.assertEqual(self.nine.runs, ((0, 9, 9),))
        self.assertEqual([self.two(start) for start in (-8, 0, 1, 2, 10)], [5, 5, 6, 15, 15])
        self.assertEqual([self.nine(start) for start in (-9, 0, 25)], [0, 9, 34])


if __name__ == "__main__":
    unittest.main()
