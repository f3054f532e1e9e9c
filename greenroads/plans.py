"""Plans: what changes of the signals' greens do to the cars on roads and in nets."""
from greenroads.changed import course_through, drive_through, plans_of
from greenroads.checks import check_moment, is_whole
from greenroads.courses import course_difference, course_of, greatest_loss
from greenroads.errors import InvalidChanges, TooLarge
from greenroads.nets import check_net, check_place, check_trip, is_street_index
from greenroads.passages import travel_of
from greenroads.roads import check_road, is_index
from greenroads.routes import arrivals_from, earliest_ways
from greenroads.signals import is_signal

MOST_CHANGES = 20
MOST_PAIRS = 100


def is_change(road, value):
    """Whether any value is a change (moment, index, signal) of a road."""
    if not isinstance(value, tuple) or len(value) != 3:
        return False
    return is_whole(value[0]) and is_index(road, value[1]) and is_signal(value[2], road.cycle)


def is_net_change(net, value):
    """Whether any value is a change (moment, street, index, signal) of a net."""
    if not isinstance(value, tuple) or len(value) != 4 or not is_street_index(net, value[1]):
        return False
    return is_change(net.roads[value[1]], (value[0], *value[2:]))


def check_list(changes):
    """InvalidChanges unless the value is a list of at most so many changes."""
    if not isinstance(changes, list) or len(changes) > MOST_CHANGES:
        raise InvalidChanges(None)


def check_rows(changes, are_changes):
    """InvalidChanges unless all rows, told for each one whether it is a change, are changes that ascend."""
    for row, is_one in enumerate(are_changes):
        # All but the signal tells where a change stands.
        if not is_one or (row > 0 and changes[row][:-1] <= changes[row - 1][:-1]):
            raise InvalidChanges(row)


def check_pairs(many):
    """TooLarge if there are too many pairs of a change and a pass of its signal."""
    if many > MOST_PAIRS:
        raise TooLarge(MOST_PAIRS)


def check_changes(road, changes):
    """InvalidRoad, InvalidChanges or TooLarge unless the values are a road and changes of it."""
    check_road(road)
    check_list(changes)
    check_rows(changes, [is_change(road, change) for change in changes])
    check_pairs(sum([road.passes.count(index) for _, index, _ in changes]))


def check_net_changes(net, changes):
    """InvalidNet, InvalidChanges or TooLarge unless the values are a net and changes of it."""
    check_net(net)
    check_list(changes)
    check_rows(changes, [is_net_change(net, change) for change in changes])
    check_pairs(sum([net.roads[street].passes.count(index) for _, street, index, _ in changes]))


def course_with(road, changes):
    """The course of the arrivals on a road with changes."""
    check_changes(road, changes)
    return course_through(road, changes)


def arrival_with(road, changes, start):
    """The arrival of a start on a road with changes."""
    check_changes(road, changes)
    check_moment(start)
    _, arrival = drive_through(road, plans_of(road, changes), start)
    return arrival


def drive_with(road, changes, start):
    """The list of the tuples (index of the signal, arrival, moment of passing) on a road with changes."""
    check_changes(road, changes)
    check_moment(start)
    seen, _ = drive_through(road, plans_of(road, changes), start)
    return seen


def first_touched(road, changes):
    """The least start from 0 on whose arrival is not that without the changes, or None."""
    return course_difference(course_with(road, changes), course_of(road.passage()))


def worst_loss(road, changes):
    """The tuple (greatest loss of time by the changes, least start from 0 on with it)."""
    return greatest_loss(course_with(road, changes), course_of(road.passage()))


def changes_by_street(net, changes):
    """For each street of a net the list of the changes of its road."""
    return [[(moment, index, signal) for moment, changed, index, signal in changes if changed == street]
            for street in range(len(net.streets))]


def net_earliest(net, changes, begin, moment, goal):
    """The earliest arrival at a place of a net with changes, or None if there is no route."""
    check_net_changes(net, changes)
    check_trip(net, begin, moment, goal)
    plans = [plans_of(road, rows) for road, rows in zip(net.roads, changes_by_street(net, changes))]
    arrivals = arrivals_from(
        net.streets, lambda index, start: drive_through(net.roads[index], plans[index], start)[1], begin, moment)
    return arrivals[goal][0] if goal in arrivals else None


def net_courses(net, changes, begin):
    """A dict from the places that can be reached, in ascending order, to the courses of the earliest arrivals."""
    check_net_changes(net, changes)
    check_place(net, begin)
    ways = [course_through(road, rows) for road, rows in zip(net.roads, changes_by_street(net, changes))]
    return earliest_ways(net.streets, ways, begin, course_of(travel_of(net.cycle, 0)))
