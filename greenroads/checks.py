"""Checks of arguments that several modules share."""
from greenroads.errors import InvalidCycle, InvalidMoment, InvalidNumber

MOST_CYCLE = 10 ** 30


def is_whole(value):
    """Whether any value is an integer in the sense of the document."""
    return isinstance(value, int) and not isinstance(value, bool)


def check_cycle(cycle):
    """InvalidCycle unless the value is a cycle."""
    if not is_whole(cycle) or not 1 <= cycle <= MOST_CYCLE:
        raise InvalidCycle("a cycle is an integer from 1 to 10 ** 30")


def check_moment(moment):
    """InvalidMoment unless the value is a moment."""
    if not is_whole(moment):
        raise InvalidMoment("a moment is an integer")


def check_number(number):
    """InvalidNumber unless the value is an integer."""
    if not is_whole(number):
        raise InvalidNumber("a number is an integer")


def check_number_in(number, least, most):
    """InvalidNumber unless the value is an integer from least to most."""
    if not is_whole(number) or not least <= number <= most:
        raise InvalidNumber(f"the number is not from {least} to {most}")
