"""Section 4 of the interface: which texts are roads, and the errors of those that are none."""
import unittest

from greenroads.errors import InvalidCycle, InvalidText, TooLarge
from greenroads.roads import Road

GREAT = 10 ** 30
# Texts in a cycle of 10, and the number of the first wrong word.
WRONG_TEXTS = [
    # Words that are none.
    ("x", 0), ("5 x", 1), ("5x", 0), ("-5", 0), ("+5", 0), ("5.0", 0), ("5_0", 0), ("0x5", 0), ("1e3", 0), ("s", 0),
    ("5 s:0+4 N", 2), ("road", 0), ("[", 0), ("5 ;", 1), ("5,6", 0), ("5\n6", 0), ("5\n", 0), ("\n", 0), ("5\t6", 0),
    # Empty words.
    (" ", 0), ("  ", 0), (" 5", 0), ("5 ", 1), ("5  6", 1), ("{ 5 |  }", 3), ("( 5 )2 ", 3), ("{ 5 | } ", 4),
    # Numbers.
    ("00", 0), ("05", 0), ("5 01", 1), (str(GREAT + 1), 0), ("9" * 40, 0), ("1" * 10000, 0), ("0" * 31, 0),
    # Signals.
    ("s:", 0), ("s:0", 0), ("s:0+", 0), ("s:+4", 0), ("s:+", 0), ("s:0+4,", 0), ("s:,0+4", 0), ("s:0+4,,5+1", 0),
    ("s:0+4+1", 0), ("s:0-4", 0), ("s:-1+4", 0), ("s:0+-4", 0), ("s:00+4", 0), ("s:0+04", 0), ("s:01+4", 0),
    ("s:10+4", 0), ("s:0+11", 0), ("s:0+0", 0), ("s:0+4,10+1", 0), ("s:0+4,5+0", 0), ("S:0+4", 0), ("s0+4", 0),
    ("s:0+4;5+1", 0), ("s: 0+4", 0), ("s:0 +4", 0), ("5 s:0+4 s:9+11", 2), ("s:0+4,1+1,2+1,3+1,4+1,5+1,6+1", 0),
    ("s:" + "1" * 5000 + "+1", 0), ("s:0+" + "1" * 5000, 0), ("s:s:0+4", 0), ("s:0+4s", 0), ("s:(0,4)", 0),
    # Repeats.
    (")", 0), (")2", 0), ("( )2", 1), ("5 ( )2", 2), ("( 5 )", 2), ("( 5 )0", 2), ("( 5 )41", 2), ("( 5 )02", 2),
    ("( 5 )-1", 2), ("( 5 )x", 2), ("( 5 ) 2", 2), ("(5 )2", 0), ("( 5)2", 1), ("( 5 )2)", 2),
    ("( 5 )" + "1" * 5000, 2),
    ("( ( )2 )2", 2), ("( ( 5 )2 ( )2 )2", 5), ("( 5 )2 )2", 3), ("( 5 | 6 )2", 2), ("( 5 & 6 )2", 2), ("( 5 }", 2),
    ("( 5 >", 2), ("()2", 0),
    # Brackets.
    ("|", 0), ("&", 0), ("}", 0), (">", 0), ("5 | 6", 1), ("5 & 6", 1), ("{ }", 1), ("< >", 1), ("{ 5 }", 2),
    ("< 5 >", 2), ("{ 5 & 6 }", 2), ("< 5 | 6 >", 2), ("{ 5 | 6 >", 4), ("< 5 & 6 }", 4), ("{ 5 | 6 )2", 4),
    ("< 5 & 6 )2", 4), ("{ < 5 | 6 > }", 3), ("{ 5 | < 6 & 7 } >", 7), ("{ 5 | ( 6 | 7 )2 }", 5), ("{5 | 6 }", 0),
    ("{ 5 |6 }", 2), ("{ 5 | 6 } }", 5), ("< 5 & 6 > &", 5), ("{ ( 5 } )2", 3), ("{ 5 || 6 }", 2), ("{ { 5 | 6 } }", 6),
    ("{ 5 | 6 }2", 4), ("{ 5 | { } }", 4),
    # Brackets that are not closed: the number of words.
    ("(", 1), ("{", 1), ("<", 1), ("3 ( 4", 3), ("{ 5 |", 3), ("{ 5 | 6", 4), ("< 5 & 6", 4), ("{ 5 | 6 } (", 6),
    ("( ( 5 )2", 4), ("{ { 5 | 6 }", 6), ("s:0+4 < 5 & ( 6 )3", 7),
    # Several wrong words: the first one.
    ("5 x y", 1), ("( x", 1), ("{ 5 } x", 2), ("5  )2", 1), ("( 5 )0 (", 2)]
ROADS = ["", "0", "5 0 5", "( 5 )1", "( 5 )40", "{ | }", "< & >", "{ 5 | }", "{ | 5 }", "( { | } )3", "( ( 5 )2 )2",
         "s:0+10", "s:9+10", "s:9+1,9+1,9+1,9+1,9+1,9+1", f"{GREAT}", "{ < ( 5 )2 & > | } 6"]


class Texts(unittest.TestCase):
    def check(self, cycle, text, index):
        with self.subTest(cycle=cycle, text=repr(text)[:100]):
            with self.assertRaises(InvalidText) as caught:
                Road(cycle, text)
            self.assertEqual(caught.exception.index, index)

    def test_wrong_texts(self):
        for text, index in WRONG_TEXTS:
            self.check(10, text, index)

    def test_roads(self):
        for text in ROADS:
            self.assertEqual(Road(10, text).text, text)

    def test_wrong_words_further_on(self):
        for text, index in WRONG_TEXTS:
            for ahead in ("5", "s:0+4 ( 5 )2", "{ 5 | s:1+1 }", "{ | { | } } < & >"):
                self.check(10, f"{ahead} {text}", index + len(ahead.split(" ")))

    def test_every_word_ahead_of_the_wrong_one_is_right(self):
        for text, index in WRONG_TEXTS:
            words = text.split(" ")[:index]
            try:
                Road(10, " ".join(words))
            except InvalidText as error:
                self.assertEqual(error.index, len(words))

    def test_characters_that_only_look_like_digits(self):
        for digit in ("\u00b2", "\u0663", "\uff15", "\u0665"):
            self.check(10, digit, 0)
            self.check(10, f"s:{digit}+4", 0)
            self.check(10, f"5 s:0+{digit}", 1)
            self.check(10, f"( 5 ){digit}", 2)

    def test_bounds_of_travels(self):
        for cycle in (1, 10, GREAT):
            for ticks in (0, 1, GREAT - 1, GREAT):
                self.assertEqual(Road(cycle, str(ticks)).travel, ticks)
            for word in (str(GREAT + 1), str(10 * GREAT), "-1"):
                self.check(cycle, word, 0)

    def test_bounds_of_greens(self):
        for cycle in (1, 2, 10, 10 ** 9 + 7, GREAT):
            for green in ((0, 1), (cycle - 1, 1), (0, cycle), (cycle - 1, cycle)):
                self.assertEqual(Road(cycle, "s:{}+{}".format(*green)).signals, ((green,),))
            for green in ((cycle, 1), (0, cycle + 1), (0, 0), (cycle + 1, 1)):
                self.check(cycle, "s:{}+{}".format(*green), 0)
                self.check(cycle, "5 s:0+1,{}+{} 6".format(*green), 1)

    def test_bounds_of_repeats(self):
        for times in (1, 2, 39, 40):
            self.assertEqual(Road(10, f"( 3 ){times}").travel, 3 * times)
        for times in (0, 41, 400, 10 ** 40):
            self.check(10, f"( 3 ){times}", 2)

    def test_sixty_roads(self):
        for begin, sign, end in [("{", " | ", "}"), ("<", " & ", ">")]:
            for many in (2, 59, 60):
                self.assertEqual(Road(10, f"{begin} " + sign.join(["5"] * many) + f" {end}").passage()(0), 5)
            # The word that begins the 61st road stands behind the bracket, 60 roads and 59 words between them.
            for many in (61, 62, 100):
                self.check(10, f"{begin} " + sign.join(["5"] * many) + f" {end}", 120)
            self.check(10, begin + sign.rstrip() * 60 + f" {end}", 60)
            self.assertEqual(Road(10, begin + sign.rstrip() * 59 + f" {end}").passage()(0), 0)
            # Each bracket has its own count.
            inner = f"{begin} " + sign.join(["5"] * 60) + f" {end}"
            self.assertEqual(Road(10, f"{begin} {inner}{sign}{inner} {end}").passage()(0), 5)

    def test_eight_open_brackets(self):
        for kinds in ["(" * 8, "{" * 8, "<" * 8, "({<({<({", "<<{{((<{"]:
            ends = {"(": ")2", "{": "| }", "<": "& >"}
            row = " ".join(kinds) + " 3 " + " ".join(ends[kind] for kind in reversed(kinds))
            self.assertEqual(Road(10, row).text, row)
            for ninth in "({<":
                self.check(10, " ".join(kinds) + f" {ninth} 3", 8)
                self.check(10, "5 ( 5 )2 " + " ".join(kinds) + f" 3 {ninth}", 13)
            # Those that are closed do not count.
            self.assertEqual(Road(10, f"{row} {row}").text, f"{row} {row}")

    def test_four_hundred_words(self):
        for word in ("1", "( 1 )1", "{ | }", "{ 1 | 1 }"):
            many = len(word.split(" "))
            text = " ".join([word] * (400 // many) + ["0"] * (400 - 400 // many * many))
            self.assertEqual(len(text.split(" ")), 400)
            self.assertEqual(Road(10, text).text, text)
            for more in (" 1", " ", " x", " (", " s:0+1 5"):
                self.check(10, text + more, 400)
        self.check(10, " ".join(["5"] * 500), 400)
        self.check(10, " ".join(["5"] * 399 + ["x", "5"]), 399)
        self.check(10, " ".join(["("] + ["5"] * 399), 400)
        self.check(10, " ".join(["("] + ["5"] * 400), 400)
        self.check(10, " ".join(["x"] * 500), 0)
        self.check(10, " " * 29999, 0)

    def test_no_string(self):
        for text in (None, True, False, 5, b"5", ["5"], ("5",), {"5": 5}, {5}, object(), Road(10, "5"), str):
            self.check(10, text, None)

    def test_the_cycle_comes_first(self):
        for cycle in (0, -1, GREAT + 1, None, True, "10", (10,)):
            for text in ("5", "x", None, " ".join(["s:0+1"] * 201)):
                self.assertRaises(InvalidCycle, Road, cycle, text)


class TooLargeRoads(unittest.TestCase):
    def check(self, text, limit, cycle=10):
        with self.assertRaises(TooLarge) as caught:
            Road(cycle, text)
        self.assertEqual(caught.exception.limit, limit)

    def test_two_thousand_travels_and_signals(self):
        self.assertEqual(Road(10, "( ( 3 )40 )40 ( 2 )40 " + "1 " * 359 + "1").travel, 4800 + 80 + 360)
        self.check("( ( 3 )40 )40 ( 2 )40 " + "1 " * 360 + "1", 2000)
        self.assertEqual(Road(10, "( ( ( 3 )40 )25 )2").travel, 6000)
        self.check("( ( ( 3 )40 )25 )2 1", 2000)
        self.check("( ( ( 3 )40 )25 )2 s:0+1", 2000)
        self.assertEqual(len(Road(10, "( ( 3 s:0+10 )20 ( 3 )30 )10 ( ( 1 )40 )32 0 0").passes), 200)
        self.check("( ( 3 s:0+10 )20 ( 3 )30 )10 ( ( 1 )40 )32 ( 0 )40", 2000)
        self.check("( " * 8 + "0" + " )40" * 8, 2000)
        self.check("( " * 7 + "{ 0 | }" + " )40" * 7, 2000)

    def test_those_in_brackets_count_in_all_roads(self):
        self.assertEqual(Road(10, "( ( { 1 | 2 } < 3 & 4 3 > )40 )10")(0), 400 * 8)
        self.check("( ( { 1 | 2 } < 3 & 4 3 > )40 )10 1", 2000)

    def test_two_hundred_greens(self):
        self.assertEqual(len(Road(10, "( s:0+1 )40 " * 4 + "( s:0+1,1+1 )20").passes), 180)
        self.check("( s:0+1 )40 " * 4 + "( s:0+1,1+1 )20 s:1+1", 200)
        self.assertEqual(len(Road(10, " ".join(["s:0+1"] * 200)).passes), 200)
        self.check(" ".join(["s:0+1"] * 201), 200)
        # Travels have no greens.
        self.assertEqual(Road(10, "( s:0+1 2 )40 " * 4 + "( s:0+1 2 )40 " + "2 " * 99 + "2").travel, 600)
        self.check("( s:0+1 2 )40 " * 4 + "( s:0+1 2 )40 " + "2 " * 99 + "s:0+1", 200)
        six = "s:0+1,0+1,0+1,0+1,0+1,0+1"
        self.assertEqual(len(Road(10, f"( {six} )33 s:0+1,1+1").passes), 34)
        self.check(f"( {six} )34", 200)
        self.check("( { s:0+1 | s:0+1 } < s:0+1 & ( s:0+1 )3 > )40", 200)
        self.check("( ( ( s:0+1 )40 )40 )1", 200)

    def test_the_order(self):
        self.check("( ( ( s:0+1 )40 )40 )2", 2000)
        self.check("( s:0+1 " * 8 + ")40 " * 7 + ")40", 2000)
        for text, index in [("( ( ( s:0+1 )40 )40 )2 x", 7), ("( " * 8 + "0" + " )40" * 7, 16)]:
            with self.assertRaises(InvalidText) as caught:
                Road(10, text)
            self.assertEqual(caught.exception.index, index)


if __name__ == "__main__":
    unittest.main()
