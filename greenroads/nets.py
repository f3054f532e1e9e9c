"""Nets: places, and streets between them that are roads."""
from greenroads.checks import check_cycle, check_moment, is_whole
from greenroads.errors import (
    InvalidIndex, InvalidNet, InvalidPlace, InvalidStreets, InvalidText, OtherCycle, TooLarge)
from greenroads.passages import first_later, greatest_difference, travel_of
from greenroads.roads import MOST_GREENS, Road, many_greens
from greenroads.routes import arrivals_from, earliest_ways
from greenroads.starts import best_start
from greenroads.together import SOONER, all_together

MOST_STREETS = 30
MOST_PLACES = 12
MOST_LETTERS = 8


class Net:
    """The net of a cycle with these streets."""

    def __init__(self, cycle, streets):
        check_cycle(cycle)
        if not isinstance(streets, list) or not 1 <= len(streets) <= MOST_STREETS:
            raise InvalidStreets(None)
        roads = []
        for row, street in enumerate(streets):
            road = road_in(cycle, street)
            if road is None:
                raise InvalidStreets(row)
            roads.append(road)
        names = sorted(set([name for begin, end, _ in streets for name in (begin, end)]))
        if len(names) > MOST_PLACES:
            raise TooLarge(MOST_PLACES)
        if sum([many_greens(road) for road in roads]) > MOST_GREENS:
            raise TooLarge(MOST_GREENS)
        self.cycle = cycle
        self.streets = tuple(streets)
        self.roads = tuple(roads)
        self.names = tuple(names)

    @property
    def places(self):
        """The ascending list of the places."""
        return list(self.names)

    def earliest(self, begin, moment, goal):
        """The earliest arrival at a place, or None if there is no route."""
        check_trip(self, begin, moment, goal)
        found = arrivals_in(self, begin, moment)
        return found[goal][0] if goal in found else None

    def route(self, begin, moment, goal):
        """A route that arrives at the earliest arrival, or None."""
        check_trip(self, begin, moment, goal)
        found = arrivals_in(self, begin, moment)
        if goal not in found:
            return None
        backward = []
        place = goal
        while found[place][1] is not None:
            backward.append(found[place][1])
            place = self.streets[backward[-1]][0]
        return backward[::-1]

    def passages(self, begin):
        """A dict from the places that can be reached, in ascending order, to the passages of the earliest arrivals."""
        check_place(self, begin)
        return passages_by(self, list(range(len(self.streets))), begin)

    def __eq__(self, other):
        return isinstance(other, Net) and self.cycle == other.cycle and self.streets == other.streets


def is_place(value):
    """Whether any value is a name that a place may have."""
    if not isinstance(value, str) or not 1 <= len(value) <= MOST_LETTERS:
        return False
    return all(["a" <= letter <= "z" for letter in value])


def road_in(cycle, value):
    """The road of any value that is a street, or None if it is none."""
    if not isinstance(value, tuple) or len(value) != 3 or not is_place(value[0]) or not is_place(value[1]):
        return None
    try:
        road = Road(cycle, value[2])
    except (InvalidText, TooLarge):
        return None
    least, _ = best_start(road.passage())
    return road if least >= 1 else None


def check_net(net):
    """InvalidNet unless the value is a net."""
    if not isinstance(net, Net):
        raise InvalidNet("this is no net")


def check_place(net, place):
    """InvalidPlace unless the value is a place of the net."""
    if not isinstance(place, str) or place not in net.names:
        raise InvalidPlace("the net has no such place")


def check_trip(net, begin, moment, goal):
    """InvalidPlace and InvalidMoment unless the values are a place, a moment and a place."""
    check_place(net, begin)
    check_moment(moment)
    check_place(net, goal)


def arrivals_in(net, begin, moment):
    """What arrivals_from tells of a net."""
    return arrivals_from(net.streets, lambda index, start: net.roads[index](start), begin, moment)


def passages_by(net, indices, begin):
    """What the method passages returns, by the streets with these indices alone."""
    streets = [net.streets[index] for index in indices]
    ways = [net.roads[index].passage() for index in indices]
    return earliest_ways(streets, ways, begin, travel_of(net.cycle, 0))


def is_route(net, begin, goal, value):
    """Whether any value is a route from a place to a place."""
    check_net(net)
    check_place(net, begin)
    check_place(net, goal)
    if not isinstance(value, list):
        return False
    place = begin
    for index in value:
        if not is_street_index(net, index) or net.streets[index][0] != place:
            return False
        place = net.streets[index][1]
    return place == goal


def is_street_index(net, value):
    """Whether any value is the index of a street of a net."""
    return is_whole(value) and 0 <= value < len(net.streets)


def useless_streets(net):
    """The ascending list of the indices of the streets without which, each one alone, nobody arrives later."""
    check_net(net)
    found = {begin: net.passages(begin) for begin in net.names}
    return [index for index in range(len(net.streets)) if is_useless(net, found, index)]


def is_useless(net, found, index):
    """Whether a street is useless, told what net.passages returns for each place."""
    begin, end, _ = net.streets[index]
    # A street takes a tick at least, so nobody comes back to where it begins in order to take it.
    if begin == end:
        return True
    arrivals = [found[begin][start] + net.roads[other].passage()
                for other, (start, goal, _) in enumerate(net.streets)
                if goal == end and other != index and start in found[begin]]
    # Where another street arrives as early at the end, nobody took this one on the way to that street: what is taken
    # behind this one arrives later than this one itself.
    return len(arrivals) > 0 and first_later(all_together(SOONER, arrivals), net.roads[index].passage()) is None


def loss(net, index, begin, goal):
    """The tuple (greatest loss of time, least start with it) if a street is closed, or None without a route."""
    check_net(net)
    if not is_street_index(net, index):
        raise InvalidIndex("the net has no street with this index")
    check_place(net, begin)
    check_place(net, goal)
    others = [other for other in range(len(net.streets)) if other != index]
    closed = passages_by(net, others, begin)
    if goal not in closed:
        return None
    return greatest_difference(closed[goal], net.passages(begin)[goal])


def same_nets(net, other):
    """Whether two nets have the same places and the same earliest arrivals between them."""
    check_net(net)
    check_net(other)
    if net.cycle != other.cycle:
        raise OtherCycle("the nets have not the same cycle")
    if net.names != other.names:
        return False
    return all([net.passages(place) == other.passages(place) for place in net.names])
