"""Plain roads driven lap by lap: where the next wait of a car is.

A car is a tuple (lap, pass, begun): it is at this pass of this lap, or ahead of all passes of it if the pass is -1, and
had it not waited in the lap, it would have begun it at the moment begun. So waits move begun, and drives do not.
"""
from greenroads.pieces import passes_ahead
from greenroads.signals import met_within, reds_of


class Lap:
    """What there is in a lap of a road: its travel, the travel ahead of each pass, and the reds.

    A red is a tuple (pass, first, length): a car that would have begun the lap without waits at one of so many
    moments from the first one on, moved by cycles, waits at the pass.
    """

    def __init__(self, road):
        passes, travel = passes_ahead(road.piece)
        self.cycle = road.cycle
        self.travel = travel
        self.ahead = [ticks for _, ticks in passes]
        self.reds = []
        for at, (index, ticks) in enumerate(passes):
            for first, length in reds_of(road.cycle, road.signals[index]):
                self.reds.append((at, (first - ticks) % road.cycle, length))


def end_of_red(lap, red):
    """The wait point at which a red ends."""
    at, first, length = red
    return at, (first + length + lap.ahead[at]) % lap.cycle


def place_of_car(lap, car):
    """The wait point of a car that passes at one."""
    _, at, begun = car
    return at, (begun + lap.ahead[at]) % lap.cycle


def car_at(lap, point):
    """A car that passes at a wait point in the lap 0."""
    at, moment = point
    return 0, at, moment - lap.ahead[at]


def next_red(lap, car):
    """The tuple (number of laps after which the next red is that a car meets, the red), or None."""
    _, last, begun = car
    best, most = None, lap.cycle
    for red in lap.reds:
        at, first, length = red
        turn = 0 if at > last else 1
        laps = met_within(lap.cycle, begun + turn * lap.travel, lap.travel, (first, length), most)
        # Reds are in the order of the passes, so of several in one lap the first one counts.
        if laps is not None and (best is None or laps + turn < best[0]):
            best, most = (laps + turn, red), laps + turn
    return best


def next_stop(lap, car):
    """The tuple (car as it comes to its next wait, car as it goes on from there), or None if it never waits again."""
    met = next_red(lap, car)
    if met is None:
        return None
    number, _, begun = car
    laps, (at, first, length) = met
    comes = begun + laps * lap.travel
    goes = comes - (comes - first) % lap.cycle + length
    return (number + laps, at, comes), (number + laps, at, goes)


def car_after(lap, start, laps):
    """The car from a start as it goes on from its last wait within so many laps."""
    car = (0, -1, start)
    met = {}
    stop = next_stop(lap, car)
    while stop is not None and stop[1][0] < laps:
        car = stop[1]
        point = place_of_car(lap, car)
        if point in met:
            # From here on all comes again and again, so whole rounds need not be driven.
            turns = (laps - 1 - car[0]) // (car[0] - met[point][0])
            car = (car[0] + turns * (car[0] - met[point][0]), car[1], car[2] + turns * (car[2] - met[point][2]))
        met[point] = car
        stop = next_stop(lap, car)
    return car


def stops_until_ring(lap, start):
    """The list of the cars from a start as they go on from each wait, up to the first wait point that comes again.

    If the car waits finitely often, the last car is not at the wait point of another one.
    """
    cars, met = [], {}
    stop = next_stop(lap, (0, -1, start))
    while stop is not None:
        cars.append(stop[1])
        point = place_of_car(lap, stop[1])
        if point in met:
            return cars
        met[point] = True
        stop = next_stop(lap, stop[1])
    return cars
