"""Section 8 of the interface: nets of streets."""
import random
import unittest

from greenroads.errors import InvalidStreets, OtherCycle, TooLarge
from greenroads.nets import Net, is_route, loss, same_nets, useless_streets
from greenroads.passages import gaps, platoons, travel_of
from greenroads.roads import Road
from tests.model import model_runs, near_edges, table_of
from tests.net_model import chance_street_text, chance_streets, model_arrivals, model_tables, places_of, rows_of

GREAT = 10 ** 30
# Streets from a place to itself, several between the same places, places that nobody reaches or leaves.
NETS = [
    [("a", "b", "s:0+2 5"), ("a", "b", "9"), ("b", "c", "s:5+4 1"), ("c", "a", "2")],
    [("a", "a", "1")], [("a", "a", "s:0+4 1"), ("a", "a", "3")], [("a", "b", "1")],
    [("a", "b", "7"), ("b", "a", "7"), ("a", "b", "7")], [("a", "b", "3"), ("c", "d", "3"), ("d", "d", "1")],
    [("a", "b", "s:0+4 5"), ("a", "b", "s:4+4 5"), ("a", "b", "s:8+2 5"), ("a", "b", "5 s:0+10")],
    [("a", "b", "1"), ("b", "c", "1"), ("a", "c", "2"), ("a", "c", "s:0+9 2"), ("c", "a", "{ 3 | s:1+1 1 }")],
    [("a", "b", "4"), ("b", "b", "1"), ("b", "c", "s:3+1 1"), ("a", "c", "s:9+1 5"), ("c", "b", "1")],
    [("x", "y", "< s:0+2 5 & 9 >"), ("y", "x", "( s:0+4 3 )2"), ("x", "z", "1"), ("z", "y", "8")]]


def all_nets(seed, many):
    source = random.Random(seed)
    for streets in NETS:
        yield source, 10, streets
    for _ in range(many):
        cycle = source.choice([1, 2, 3, 5, 7, 10])
        yield source, cycle, chance_streets(source, cycle, source.choice([2, 3, 5]), source.randint(1, 9))


class SmallNets(unittest.TestCase):
    def test_passages(self):
        for _, cycle, streets in all_nets(121, 120):
            net, tables = Net(cycle, streets), model_tables(cycle, streets)
            for begin in net.places:
                found = net.passages(begin)
                self.assertEqual(list(found), sorted(tables[begin]))
                for goal, passage in found.items():
                    self.assertEqual((passage.cycle, passage.runs), (cycle, model_runs(tables[begin][goal])))

    def test_earliest_and_route(self):
        for source, cycle, streets in all_nets(122, 120):
            net, tables = Net(cycle, streets), model_tables(cycle, streets)
            roads = [Road(cycle, text) for _, _, text in streets]
            for begin in net.places:
                for goal in net.places:
                    for moment in [*range(-2, cycle), source.randint(-10 ** 99, 10 ** 99)]:
                        route = net.route(begin, moment, goal)
                        if goal not in tables[begin]:
                            self.assertEqual([net.earliest(begin, moment, goal), route], [None, None])
                            continue
                        arrival = tables[begin][goal](moment)
                        self.assertEqual(net.earliest(begin, moment, goal), arrival)
                        self.assertIs(is_route(net, begin, goal, route), True)
                        for index in route:
                            moment = roads[index](moment)
                        self.assertEqual(moment, arrival)

    def test_useless_streets(self):
        for _, cycle, streets in all_nets(123, 200):
            tables = rows_of(model_tables(cycle, streets))
            wanted = [index for index in range(len(streets))
                      if rows_of(model_tables(cycle, streets, index)) == tables]
            self.assertEqual(useless_streets(Net(cycle, streets)), wanted)

    def test_useless_streets_of_nets_with_equal_ways(self):
        source = random.Random(124)
        for _ in range(150):
            # Few texts, so that many ways take equally long.
            texts = source.choice([["1", "2"], ["s:0+1 1", "s:1+1 1", "1", "2"], ["s:0+2 2", "s:2+2 1", "1"]])
            cycle = source.choice([2, 4])
            streets = [(source.choice("abcd"), source.choice("abcd"), source.choice(texts)) for _ in range(9)]
            texts_fit = all(int(word[2]) < cycle for word in texts if word.startswith("s:"))
            if not texts_fit:
                continue
            tables = rows_of(model_tables(cycle, streets))
            wanted = [index for index in range(len(streets))
                      if rows_of(model_tables(cycle, streets, index)) == tables]
            self.assertEqual(useless_streets(Net(cycle, streets)), wanted)

    def test_loss(self):
        for _, cycle, streets in all_nets(125, 80):
            net, tables = Net(cycle, streets), model_tables(cycle, streets)
            for index in range(len(streets)):
                closed = model_tables(cycle, streets, index)
                for begin in net.places:
                    for goal in net.places:
                        if goal not in closed[begin]:
                            self.assertIsNone(loss(net, index, begin, goal))
                            continue
                        losses = [closed[begin][goal](start) - tables[begin][goal](start) for start in range(cycle)]
                        wanted = (max(losses), losses.index(max(losses)))
                        self.assertEqual(loss(net, index, begin, goal), wanted)

    def test_same_nets(self):
        for source, cycle, streets in all_nets(126, 80):
            net, tables = Net(cycle, streets), rows_of(model_tables(cycle, streets))
            self.assertIs(same_nets(net, Net(cycle, streets[::-1])), True)
            self.assertIs(same_nets(net, Net(cycle, streets + streets[:1])), True)
            for index in range(len(streets) if len(streets) > 1 else 0):
                rest = streets[:index] + streets[index + 1:]
                wanted = places_of(rest) == places_of(streets) and rows_of(model_tables(cycle, rest)) == tables
                self.assertIs(same_nets(net, Net(cycle, rest)), wanted)
            more = streets + chance_streets(source, cycle, 3, 1)
            wanted = places_of(more) == places_of(streets) and rows_of(model_tables(cycle, more)) == tables
            self.assertIs(same_nets(Net(cycle, more), net), wanted)
        self.assertRaises(OtherCycle, same_nets, Net(10, NETS[1]), Net(20, NETS[1]))
        self.assertRaises(OtherCycle, same_nets, Net(10, NETS[1]), Net(20, NETS[3]))

    def test_is_route(self):
        net = Net(10, NETS[0])
        for begin, goal, route in [("a", "b", [0]), ("a", "b", [1]), ("a", "c", [0, 2]), ("a", "a", []), ("c", "c", []),
                                   ("a", "a", [1, 2, 3]), ("b", "b", [2, 3, 0]), ("a", "b", [0, 2, 3, 1]),
                                   ("a", "a", [0, 2, 3] * 150)]:
            self.assertIs(is_route(net, begin, goal, route), True)
        for begin, goal, route in [("a", "b", []), ("a", "c", [0]), ("a", "b", [2]), ("a", "c", [2]), ("a", "b", (0,)),
                                   ("a", "b", [True]), ("a", "b", [False]), ("a", "b", [4]), ("a", "b", [-4]),
                                   ("a", "b", [0, 1]), ("a", "b", ["0"]), ("a", "b", [[0]]), ("a", "b", None),
                                   ("a", "b", "0"), ("a", "b", 0), ("a", "b", {0: 0}), ("a", "b", {0}),
                                   ("a", "a", ()), ("a", "a", ""), ("a", "a", {}), ("b", "a", [3]), ("a", "b", [0, None]),
                                   ("a", "b", [10 ** 99]), ("a", "a", [0, 2])]:
            self.assertIs(is_route(net, begin, goal, route), False)

    def test_attributes_and_equality(self):
        streets = list(NETS[0])
        net = Net(10, streets)
        self.assertEqual([net.cycle, net.streets, net.places], [10, tuple(NETS[0]), ["a", "b", "c"]])
        streets.append(("c", "d", "1"))
        net.places.append("q")
        net.passages("a").clear()
        net.route("a", 0, "c").clear()
        self.assertEqual([net.cycle, net.streets, net.places], [10, tuple(NETS[0]), ["a", "b", "c"]])
        self.assertEqual([net.earliest("a", 2, "c"), len(net.passages("a"))], [16, 3])
        self.assertIs(net.places is net.places, False)
        self.assertIs(net == Net(10, list(NETS[0])), True)
        others = [Net(20, NETS[0]), Net(10, NETS[0][::-1]), Net(10, NETS[0][:3]), Net(10, NETS[0][:3] + [("c", "a", "1 1")])]
        for other in others + [NETS[0], net.streets, 10, None, "net"]:
            self.assertIs(net == other, False)
            self.assertIs(net != other, True)

    def test_a_net_stays_as_it_is(self):
        net = Net(10, NETS[0])
        told = dict(vars(net))
        for _ in range(2):
            self.assertEqual([useless_streets(net), loss(net, 1, "a", "b"), same_nets(net, net)], [[], (4, 2), True])
            self.assertEqual(net.passages("a")["c"].runs, ((0, 1, 6),))
        self.assertEqual(vars(net), told)

    def test_the_begin_itself(self):
        for streets in NETS:
            net = Net(10, streets)
            for place in net.places:
                self.assertTrue(net.passages(place)[place] == travel_of(10, 0))
                self.assertEqual([net.earliest(place, -3, place), net.route(place, -3, place)], [-3, []])
                for index in range(len(streets)):
                    self.assertEqual(loss(net, index, place, place), (0, 0))


class LimitsOfNets(unittest.TestCase):
    def test_streets(self):
        self.assertEqual(len(Net(10, [("a", "b", "1")] * 30).streets), 30)
        for streets in ([], [("a", "b", "1")] * 31, [None] * 31, [None] * 500):
            self.check_row(streets, None)
        for place in ("a", "z", "abcdefgh", "zzzzzzzz"):
            self.assertEqual(Net(10, [(place, "b", "1")]).places, sorted({place, "b"}))
            self.assertEqual(Net(10, [("b", place, "1")]).places, sorted({place, "b"}))

    def test_roads_that_take_no_tick_from_some_start(self):
        for text in ("", "0", "s:0+4", "{ 3 | }", "{ 3 | s:3+1 }", "< s:0+4 & s:1+1 >", "s:0+1 s:0+9", "( 0 )3"):
            self.check_row([("a", "b", "1"), ("a", "b", text), None], 1)
        for text in ("1", "s:0+1 s:1+1", "s:0+4 1", "< 1 & >", "{ 1 | 2 }", "( 0 1 )3", "s:0+3 s:3+3"):
            self.assertEqual(Net(10, [("a", "b", text)]).streets[0][2], text)

    def test_roads_that_are_too_large_make_no_street(self):
        greens = " ".join(["s:0+5"] * 201)
        for text in (f"{greens} 1", "( ( 1 )40 )40 ( 1 )40 ( ( 1 )40 )40", "5 )", "( 5", "s:0+11 1"):
            self.check_row([("a", "b", "1"), ("b", "c", "2"), ("a", "b", text), None], 2)

    def test_places(self):
        names = "abcdefghijklm"
        ring = [(begin, end, "1") for begin, end in zip(names, names[1:])]
        self.assertEqual(len(Net(10, ring[:11]).places), 12)
        with self.assertRaises(TooLarge) as caught:
            Net(10, ring)
        self.assertEqual(caught.exception.limit, 12)
        # A street that is none comes first, and greens come last.
        self.check_row(ring + [("a", "b", "")], 12)
        with self.assertRaises(TooLarge) as caught:
            Net(10, ring + [("a", "b", "( s:0+5 1 )40")] * 6)
        self.assertEqual(caught.exception.limit, 12)

    def test_greens(self):
        streets = [("a", "b", "( s:0+5,6+1 )20 1"), ("b", "c", "( s:0+5 )40 1"), ("a", "c", "( ( s:0+1,2+1 )6 )10 1")]
        self.assertEqual(len(Net(10, streets).streets), 3)
        self.assertEqual(len(Net(10, [("a", "b", " ".join(["s:0+5"] * 200) + " 1")]).streets), 1)
        with self.assertRaises(TooLarge) as caught:
            Net(10, streets + [("c", "c", "s:0+5 1")])
        self.assertEqual(caught.exception.limit, 200)
        self.check_row(streets + [("c", "c", "s:0+5 1"), ("c", "c", "0")], 4)

    def check_row(self, streets, row):
        with self.assertRaises(InvalidStreets) as caught:
            Net(10, streets)
        self.assertEqual(caught.exception.row, row)


class GreatNets(unittest.TestCase):
    """Cycles up to 10 ** 30: small nets of which each moment is drawn out, and nets of any numbers."""

    def test_drawn_out(self):
        source = random.Random(127)
        for _ in range(60):
            cycle, times = source.choice([1, 3, 10]), source.choice([7, 10 ** 15, 4 * 10 ** 28])
            seed, places, many = source.randrange(10 ** 9), source.choice([2, 3, 5]), source.randint(1, 8)
            small = Net(cycle, chance_streets(random.Random(seed), cycle, places, many))
            great = Net(cycle * times, chance_streets(random.Random(seed), cycle, places, many, 1, times))
            for begin in small.places:
                found, wanted = great.passages(begin), small.passages(begin)
                self.assertEqual(list(found), list(wanted))
                for goal in found:
                    row = table_of(wanted[goal]).row
                    self.assertEqual([found[goal](start * times) for start in range(cycle)],
                                     [arrival * times for arrival in row])
                    start = source.randrange(cycle)
                    self.assertEqual(great.earliest(begin, start * times, goal), row[start] * times)

    def check_any(self, net, source):
        roads = [Road(net.cycle, text) for _, _, text in net.streets]
        for begin in source.sample(net.places, min(2, len(net.places))):
            found = net.passages(begin)
            edges = [edge for passage in found.values() for edge in near_edges(passage)]
            for start in source.sample(edges, min(12, len(edges))) + [source.randint(-10 ** 90, 10 ** 90)]:
                arrivals = model_arrivals(net.streets, lambda index, moment: roads[index](moment), begin, start)
                self.assertEqual({goal: passage(start) for goal, passage in found.items()}, arrivals)
                self.assertEqual({goal: net.earliest(begin, start, goal) for goal in found}, arrivals)

    def check_bounds(self, net):
        """Earliest arrivals have at most as many platoons and gaps as the passages of all streets together."""
        singles = [Road(net.cycle, text).passage() for _, _, text in net.streets]
        for call in (platoons, gaps):
            most = sum(len(call(single)) for single in singles)
            for begin in net.places:
                for passage in net.passages(begin).values():
                    self.assertLessEqual(len(call(passage)), most)

    def test_any_numbers(self):
        source = random.Random(128)
        for cycle in (GREAT, GREAT - 1, 10 ** 9 + 7, 30):
            for _ in range(12):
                net = Net(cycle, chance_streets(source, cycle, source.choice([3, 6, 12]), source.choice([5, 12, 25]), 2))
                self.check_any(net, source)
                self.check_bounds(net)

    def test_thirty_streets_with_two_hundred_greens(self):
        source = random.Random(129)
        names = "abcdefghijkl"
        for short in (GREAT // 1000, GREAT // 30, GREAT // 2):
            streets = [(begin, end, "") for begin, end in zip(names, names[1:] + "a")]
            streets += [(source.choice(names), source.choice(names), "") for _ in range(18)]
            streets = [(begin, end, " ".join(
                f"s:{source.randrange(GREAT)}+{GREAT - short} {source.randint(1, GREAT // 100)}" for _ in range(6)))
                for begin, end, _ in streets]
            net = Net(GREAT, streets)
            self.check_any(net, source)
            self.check_bounds(net)
            useless = useless_streets(net)
            for index in source.sample(range(30), 6):
                rest = Net(GREAT, streets[:index] + streets[index + 1:])
                self.assertIs(rest.places == net.places and same_nets(net, rest), index in useless)
                worst, start = loss(net, index, "a", "g") or (None, None)
                if worst is not None:
                    self.assertEqual(rest.earliest("a", start, "g") - net.earliest("a", start, "g"), worst)

    def test_many_routes(self):
        # Each place but the last has three streets to the next one: 3 ** 10 routes.
        source = random.Random(130)
        names = "abcdefghijk"
        streets = [(begin, end, f"s:{source.randrange(GREAT)}+{GREAT // 3} {source.randint(1, GREAT // 9)}")
                   for begin, end in zip(names, names[1:]) for _ in range(3)]
        net = Net(GREAT, streets)
        self.check_any(net, source)
        self.check_bounds(net)
        self.assertEqual(len(net.route("a", 5, "k")), 10)

    def test_texts_of_streets(self):
        source = random.Random(131)
        for _ in range(20):
            text = chance_street_text(source, 10, 4, 2)
            net = Net(10, [("a", "b", text)])
            self.assertTrue(net.passages("a")["b"] == Road(10, text).passage())


if __name__ == "__main__":
    unittest.main()
