"""Signals: green and red moments of a cycle."""
from greenroads.checks import check_cycle, check_moment, check_number, check_number_in, is_whole
from greenroads.errors import InvalidSignal

MOST_GREENS = 6


def is_green_pair(value, cycle):
    """Whether any value is a green (offset, length) of the cycle."""
    if not isinstance(value, tuple) or len(value) != 2:
        return False
    offset, length = value
    return is_whole(offset) and is_whole(length) and 0 <= offset < cycle and 1 <= length <= cycle


def is_signal(value, cycle):
    """Whether any value is a signal of the cycle."""
    check_cycle(cycle)
    if not isinstance(value, tuple) or not 1 <= len(value) <= MOST_GREENS:
        return False
    return all([is_green_pair(green, cycle) for green in value])


def check_signal(cycle, signal):
    """InvalidCycle and InvalidSignal unless the values are a cycle and a signal of it."""
    if not is_signal(signal, cycle):
        raise InvalidSignal("a signal is a tuple of 1 to 6 greens (offset, length) of the cycle")


def is_green(cycle, signal, moment):
    """Whether a moment is green."""
    check_signal(cycle, signal)
    check_moment(moment)
    return any([(moment - offset) % cycle < length for offset, length in signal])


def next_green(cycle, signal, moment):
    """The least green moment from a moment on."""
    check_signal(cycle, signal)
    check_moment(moment)
    return min([green_from(cycle, green, moment) for green in signal])


def last_green(cycle, signal, moment):
    """The greatest green moment up to a moment."""
    check_signal(cycle, signal)
    check_moment(moment)
    return max([green_up_to(cycle, green, moment) for green in signal])


def green_from(cycle, green, moment):
    """The least moment of one green from a moment on."""
    offset, length = green
    into = (moment - offset) % cycle
    return moment if into < length else moment - into + cycle


def green_up_to(cycle, green, moment):
    """The greatest moment of one green up to a moment."""
    offset, length = green
    into = (moment - offset) % cycle
    return moment if into < length else moment - into + length - 1


def count_green(cycle, signal, low, high):
    """The number of green moments from low to below high."""
    check_signal(cycle, signal)
    check_moment(low)
    check_moment(high)
    if high <= low:
        return 0
    # Only greens that do not overlap may be counted one by one.
    parted = parted_greens(cycle, signal)
    return sum([green_before(cycle, green, high) - green_before(cycle, green, low) for green in parted])


def green_before(cycle, green, moment):
    """The moments of one green from its own offset to below a moment, less than 0 if the moment is earlier."""
    offset, length = green
    rounds, into = divmod(moment - offset, cycle)
    return rounds * length + min(into, length)


def shortest_greens(cycle, signal):
    """The signal with the same green moments that has as few greens as possible, by ascending offsets."""
    check_signal(cycle, signal)
    return parted_greens(cycle, signal)


def reds_of(cycle, signal):
    """The longest stretches (first, length) of red moments, by ascending first moments."""
    greens = parted_greens(cycle, signal)
    ahead = [*greens[1:], (greens[0][0] + cycle, 0)]
    reds = [(offset + length, after[0] - offset - length) for (offset, length), after in zip(greens, ahead)]
    return [red for red in reds if red[1] > 0]


def parted_greens(cycle, signal):
    """The greens of a signal, put together where they overlap or touch, by ascending offsets."""
    joined = []
    for offset, length in sorted(list(signal)):
        if joined and offset <= joined[-1][0] + joined[-1][1]:
            begin, reach = joined[-1]
            joined[-1] = (begin, max(reach, offset + length - begin))
        else:
            joined.append((offset, length))
    return tuple(joined_over_end(cycle, joined))


def joined_over_end(cycle, greens):
    """Ascending greens that are apart, the last one put together with those that it reaches in the next cycle."""
    begin, reach = greens[-1]
    met = [green for green in greens[:-1] if green[0] + cycle <= begin + reach]
    for offset, length in met:
        reach = max(reach, offset + cycle + length - begin)
    if reach >= cycle:
        return [(0, cycle)]
    return greens[len(met):-1] + [(begin, reach)]


def first_hit(cycle, begin, step, first, length):
    """The least n from 0 on for which (begin + n * step - first) modulo cycle is less than length, or None."""
    check_cycle(cycle)
    check_number(begin)
    check_number(step)
    check_number(first)
    check_number_in(length, 1, cycle)
    # Every step that is met at all is met among the first ones, as many as the cycle has moments.
    return met_within(cycle, begin, step, (first, length), cycle)


def met_within(cycle, begin, step, stretch, most):
    """The same for a stretch (first, length), without checks; what is returned above `most` may be None instead."""
    first, length = stretch
    if (begin - first) % cycle < length:
        return 0
    ahead = (first - begin) % cycle
    return least_factor(cycle, step % cycle, ahead, ahead + length - 1, most)


def least_factor(whole, step, low, high, most):
    """The least n with low <= n * step modulo whole <= high, for 0 < low <= high < whole; None without any.

    It may be None, too, if n is greater than most.
    """
    outer = []
    modulus = whole
    while step > 0:
        count = -(-low // step)
        if count * step <= high:
            return factor_outside(outer, count)
        # No multiple of step lies in the stretch, so the modulus must be gone round. How often is the same
        # question modulo step, and the numbers fall as in Euclid's algorithm.
        outer.append((modulus, step, low))
        modulus, step, low, high = step, modulus % step, -high % step, -low % step
        # The factor asked for here is at least 1, and each one outside is greater in the proportion of the moduli.
        if most * modulus < whole:
            return None
    return None


def factor_outside(outer, count):
    """The factor for the outermost (modulus, step, low), told the one for the innermost question."""
    for modulus, step, low in reversed(outer):
        count = -(-(low + count * modulus) // step)
    return count
