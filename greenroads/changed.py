"""Signals whose greens are changed at some moments.

The plans of such a signal are a list of tuples (moment, signal), ascending: from the moment on it has these greens.
The moment of the first one is None: it has had them ever since.
"""
from greenroads.courses import Course, course_of
from greenroads.passages import pass_of, travel_of
from greenroads.pieces import driven, way_through
from greenroads.signals import last_green, next_green


def plans_of(road, changes):
    """The list of the plans of all signals of a road with changes."""
    return [[(None, signal)] + [(moment, greens) for moment, changed, greens in changes if changed == index]
            for index, signal in enumerate(road.signals)]


def greens_at(plans, moment):
    """The signal that plans tell for a moment."""
    return [signal for begun, signal in plans if begun is None or begun <= moment][-1]


def passing_by(cycle, plans, moment):
    """The least green moment from a moment on."""
    for (_, signal), (end, _) in zip(plans, plans[1:]):
        if moment < end:
            green = next_green(cycle, signal, moment)
            if green < end:
                return green
            moment = end
    return next_green(cycle, plans[-1][1], moment)


def course_by(cycle, plans):
    """The course of the passes of a signal."""
    parts = [(None, pass_of(cycle, plans[-1][1]))]
    for (begun, signal), (end, _) in reversed(list(zip(plans, plans[1:]))):
        # Behind the last green up to the change all wait for the first green from it on.
        last = last_green(cycle, signal, end - 1)
        waits = [(end - 1, passing_by(cycle, plans, end))] if last < end - 1 else []
        passes = [(last, pass_of(cycle, signal))] if begun is None or begun <= last else []
        parts = [*passes, *waits, *parts]
    return Course(cycle, tuple(parts))


def course_through(road, changes):
    """The course of a road with changes."""
    if len(changes) == 0:
        return course_of(road.passage())
    singles = [course_by(road.cycle, plans) for plans in plans_of(road, changes)]
    return way_through(lambda ticks: course_of(travel_of(road.cycle, ticks)), singles, road.piece)


def drive_through(road, plans, start):
    """The tuple (list of the signals that are passed, arrival) of a start, told the plans of the road's signals."""
    return driven(lambda index, moment: passing_by(road.cycle, plans[index], moment), road.piece, start)
