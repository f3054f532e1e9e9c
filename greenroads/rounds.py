"""Rounds: plain roads that are driven lap by lap, the end of a lap being the start of the next one."""
from math import gcd

from greenroads.checks import check_moment, check_number_in, is_whole
from greenroads.errors import InvalidIndex, NotPlain
from greenroads.laps import Lap, car_after, car_at, end_of_red, next_stop, place_of_car, stops_until_ring
from greenroads.rests import covered, differences, uncovered
from greenroads.roads import check_index, check_road

MOST_LAPS = 10 ** 30


def check_round(road):
    """InvalidRoad unless the value is a road, NotPlain if it is not plain or has no travel."""
    check_road(road)
    if not road.is_plain or road.travel == 0:
        raise NotPlain("the road is not plain, or its travel is 0")


def after_laps(road, start, laps):
    """The moment at the end of so many laps."""
    check_round(road)
    check_moment(start)
    check_number_in(laps, 0, MOST_LAPS)
    lap = Lap(road)
    number, _, begun = car_after(lap, start, laps)
    return begun + (laps - number) * lap.travel


def total_wait(road, start, laps):
    """The sum of the waits in so many laps."""
    return after_laps(road, start, laps) - start - laps * road.travel


def first_wait(road, start):
    """The tuple (lap, pass, arrival, moment of passing) of the first wait, or None for a free start."""
    check_round(road)
    check_moment(start)
    lap = Lap(road)
    stop = next_stop(lap, (0, -1, start))
    if stop is None:
        return None
    (number, at, comes), (_, _, goes) = stop
    return number, at, comes + lap.ahead[at], goes + lap.ahead[at]


def common_divisor(lap):
    """The greatest common divisor of the travel of a lap and the cycle."""
    return gcd(lap.travel, lap.cycle)


def stretches_of(lap, reds):
    """The stretches of the rests that some red, of a list of them, covers."""
    return covered(common_divisor(lap), [(first, length) for _, first, length in reds])


def free_stretches(lap, reds):
    """The stretches of the rests of the starts that meet none of these reds in any lap."""
    return uncovered(common_divisor(lap), stretches_of(lap, reds))


def free_starts(road):
    """The tuple (greatest common divisor, list of the stretches (first, last) of the rests of free starts)."""
    check_round(road)
    lap = Lap(road)
    return common_divisor(lap), free_stretches(lap, lap.reds)


def wait_points(road):
    """The ascending list of the wait points (pass, moment)."""
    check_round(road)
    lap = Lap(road)
    return sorted([end_of_red(lap, red) for red in lap.reds])


def next_wait(road, point):
    """The tuple (laps until the next wait, its wait point) of a car that passes at a wait point, or None."""
    check_round(road)
    if not is_point(point) or point not in wait_points(road):
        raise InvalidIndex("this is no wait point")
    lap = Lap(road)
    stop = next_stop(lap, car_at(lap, point))
    if stop is None:
        return None
    return stop[1][0], place_of_car(lap, stop[1])


def is_point(value):
    """Whether any value is a tuple of two integers."""
    return isinstance(value, tuple) and len(value) == 2 and all([is_whole(part) for part in value])


def ring(road, start):
    """The tuple (waits ahead of the ring, its wait points, laps, time) of a start, or None without a ring."""
    check_round(road)
    check_moment(start)
    return ring_of(Lap(road), start)


def ring_of(lap, start):
    """What `ring` tells, told the lap of the road."""
    cars = stops_until_ring(lap, start)
    points = [place_of_car(lap, car) for car in cars]
    if len(points) == 0 or points.index(points[-1]) == len(points) - 1:
        return None
    ahead = points.index(points[-1])
    return ahead, points[ahead:-1], cars[-1][0] - cars[ahead][0], cars[-1][2] - cars[ahead][2]


def pace(road):
    """The tuple (time, laps) that tells how long a lap takes on an average behind many laps."""
    check_round(road)
    lap = Lap(road)
    found = ring_of(lap, 0)
    # No ring means that some start is free, and then every car waits no more behind some lap.
    if found is None:
        return lap.travel, 1
    _, _, laps, time = found
    return time // gcd(time, laps), laps // gcd(time, laps)


def free_offsets(road, index):
    """The tuple (greatest common divisor, stretches of the ticks): moved by these, a signal leaves a start free."""
    check_round(road)
    check_index(road, index)
    lap = Lap(road)
    own = [red for red in lap.reds if road.passes[red[0]] == index]
    others = [red for red in lap.reds if road.passes[red[0]] != index]
    # Moved by ticks, the signal leaves the starts free that are as many ticks behind those that it leaves free now.
    divisor = common_divisor(lap)
    return divisor, differences(divisor, free_stretches(lap, others), free_stretches(lap, own))
