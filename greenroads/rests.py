"""Stretches of the rests modulo some number."""


def covered(modulus, rows):
    """The ascending list of the longest stretches (first, last) of the rests that some row covers.

    A row (first, length) covers the rests of so many moments from the first one on. No stretch goes over the end.
    """
    joined = []
    for low, high in sorted(cut_at_end(modulus, rows)):
        if joined and low <= joined[-1][1] + 1:
            joined[-1] = (joined[-1][0], max(joined[-1][1], high))
        else:
            joined.append((low, high))
    return joined


def cut_at_end(modulus, rows):
    """The stretches of the rests of rows, in two where a row goes over the end."""
    cut = []
    for first, length in rows:
        low = first % modulus
        high = low + min(length, modulus) - 1
        cut.append((low, min(high, modulus - 1)))
        if high >= modulus:
            cut.append((0, high - modulus))
    return cut


def uncovered(modulus, stretches):
    """The ascending list of the longest stretches of all other rests, told longest ones in ascending order."""
    lows = [0] + [last + 1 for _, last in stretches]
    highs = [first - 1 for first, _ in stretches] + [modulus - 1]
    return [(low, high) for low, high in zip(lows, highs) if low <= high]


def differences(modulus, ones, others):
    """The ascending list of the longest stretches of the rests of all one - other, told stretches of both."""
    rows = []
    for low, high in ones:
        for other_low, other_high in others:
            rows.append((low - other_high, high - low + other_high - other_low + 1))
    return covered(modulus, rows)
