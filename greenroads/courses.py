"""Courses: functions from starts to arrivals that do not fall, told by parts that are passages or single arrivals."""
from greenroads.checks import check_cycle, check_moment, is_whole
from greenroads.errors import InvalidCourse, InvalidParts, OtherCycle
from greenroads.lines import first_apart, greatest_apart, is_passage, last_apart
from greenroads.parts import (
    arrival_in, falls, fewest_parts, parts_behind, parts_both, parts_sooner, shared_stretches)
from greenroads.passages import Passage, check_passage


class Course:
    """The course of a cycle with these parts."""

    def __init__(self, cycle, parts):
        check_cycle(cycle)
        if not are_parts(cycle, parts) or falls(cycle, ways_of(parts)):
            raise InvalidParts("parts are a tuple of tuples (until, passage or integer) that ascend and do not fall")
        self.cycle = cycle
        self.ways = fewest_parts(cycle, ways_of(parts))
        self.parts = told_parts(cycle, self.ways)

    def __call__(self, start):
        """The arrival of a start."""
        check_moment(start)
        return arrival_in(self.cycle, self.ways, start)

    def __add__(self, other):
        """This course with another one behind it."""
        check_courses(self, other)
        return Course(self.cycle, told_parts(self.cycle, parts_behind(self.cycle, self.ways, other.ways)))

    def __or__(self, other):
        """The sooner one of two courses: the lesser arrivals."""
        check_courses(self, other)
        return Course(self.cycle, told_parts(self.cycle, parts_sooner(self.cycle, self.ways, other.ways)))

    def __and__(self, other):
        """Both of two courses: the greater arrivals."""
        check_courses(self, other)
        return Course(self.cycle, told_parts(self.cycle, parts_both(self.cycle, self.ways, other.ways)))

    def __eq__(self, other):
        # The fewest parts, each as long as it can be, are the same for the same arrivals.
        return isinstance(other, Course) and self.cycle == other.cycle and self.ways == other.ways


def is_way(cycle, value):
    """Whether any value is a passage of the cycle or an integer."""
    return is_whole(value) or (isinstance(value, Passage) and value.cycle == cycle)


def is_part(cycle, value):
    """Whether any value has the form of a part of a course; the until may be None."""
    if not isinstance(value, tuple) or len(value) != 2:
        return False
    return (value[0] is None or is_whole(value[0])) and is_way(cycle, value[1])


def are_parts(cycle, value):
    """Whether any value is parts of a course that may fall."""
    if not isinstance(value, tuple) or len(value) == 0 or not all([is_part(cycle, part) for part in value]):
        return False
    untils = [part[0] for part in value]
    if untils[-1] is not None or None in untils[:-1]:
        return False
    return all([one < other for one, other in zip(untils[:-1], untils[1:-1])])


def ways_of(parts):
    """Parts with the runs of passages in place of the passages."""
    return [(until, what.runs if isinstance(what, Passage) else what) for until, what in parts]


def told_parts(cycle, ways):
    """Parts with passages in place of their runs."""
    return tuple([(until, Passage(cycle, way) if is_passage(way) else way) for until, way in ways])


def check_course(course):
    """InvalidCourse unless the value is a course."""
    if not isinstance(course, Course):
        raise InvalidCourse("this is no course")


def check_courses(one, other):
    """InvalidCourse unless both values are courses, OtherCycle if their cycles are not equal."""
    check_course(one)
    check_course(other)
    if one.cycle != other.cycle:
        raise OtherCycle("the courses have not the same cycle")


def course_of(passage):
    """The course with one part."""
    check_passage(passage)
    return Course(passage.cycle, ((None, passage),))


def breaks(course):
    """The ascending list of the starts behind which another part begins if there are as few as possible."""
    check_course(course)
    return [until for until, _ in course.ways[:-1]]


def settled_from(course):
    """The tuple (least start from 0 on from which on the course is one passage, this passage), or None."""
    check_course(course)
    _, runs = course.ways[-1]
    if not is_passage(runs):
        return None
    if len(course.ways) == 1:
        return 0, course.parts[-1][1]
    # Some start of the part before arrives otherwise: if not, that part would be longer.
    until, way = course.ways[-2]
    return max(0, last_apart(course.cycle, runs, way, until) + 1), course.parts[-1][1]


def stretches_from_zero(one, other):
    """The shared stretches of two courses, cut to the starts from 0 on."""
    rows = shared_stretches(one.ways, other.ways)
    kept = [row for row in rows if row[1] is None or row[1] >= 0]
    return [(0 if low is None else max(0, low), high, way, other_way) for low, high, way, other_way in kept]


def course_difference(one, other):
    """The least start from 0 on with different arrivals, or None."""
    check_courses(one, other)
    for low, high, way, other_way in stretches_from_zero(one, other):
        apart = first_apart(one.cycle, way, other_way, low, high)
        if apart is not None:
            return apart
    return None


def greatest_loss(one, other):
    """The tuple (greatest arrival with one less that with other, least start from 0 on with it), or None."""
    check_courses(one, other)
    # A passage goes on behind any arrival at which the other course stays.
    if is_passage(one.ways[-1][1]) and not is_passage(other.ways[-1][1]):
        return None
    best = None
    for low, high, way, other_way in stretches_from_zero(one, other):
        found = greatest_apart(one.cycle, way, other_way, low, high)
        if best is None or found[0] > best[0]:
            best = found
    return best
