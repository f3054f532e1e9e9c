"""The earliest arrivals at the places of a net, whatever its streets do to cars."""
from heapq import heappop, heappush


def arrivals_from(streets, go, begin, moment):
    """A dict from the places that can be reached to the tuples (earliest arrival, index of the last street).

    The places ascend by their arrivals. A car comes to the street with an index at a moment, and go(index, moment)
    tells its arrival. The last street of the begin is None.
    """
    found = {}
    queue = [(moment, begin, -1)]
    while queue:
        arrival, place, last = heappop(queue)
        if place not in found:
            found[place] = (arrival, None if last == -1 else last)
            for index, (start, end, _) in enumerate(streets):
                if start == place and end not in found:
                    heappush(queue, (go(index, arrival), end, index))
    return found


def earliest_ways(streets, ways, begin, still):
    """A dict from the places that can be reached, in ascending order, to the functions of their earliest arrivals.

    Told the passages or courses of the streets, and the one that stays, which is that of the begin itself.
    """
    # Places that are near to one start are likely to be near to others, so few are looked at again.
    order = list(arrivals_from(streets, lambda index, moment: ways[index](moment), begin, 0))
    found = {begin: still}
    changed = {begin: True}
    while changed:
        place = [name for name in order if name in changed][0]
        del changed[place]
        for (start, end, _), way in zip(streets, ways):
            if start == place and end != begin:
                arrival = found[place] + way
                best = found[end] | arrival if end in found else arrival
                if end not in found or best != found[end]:
                    found[end] = best
                    changed[end] = True
    return {place: found[place] for place in sorted(order)}
