"""The three ways to put passages together, each named by the bracket that stands for it in the text of a road."""

BEHIND = "("
SOONER = "{"
BOTH = "<"


def put_together(way, one, other):
    """Two passages put together in one of the three ways."""
    if way == SOONER:
        return one | other
    if way == BOTH:
        return one & other
    return one + other


def all_together(way, passages):
    """The passages of a list of at least one, put together in their order."""
    while len(passages) > 1:
        # Neighbours first: so many small passages meet, and few that have grown.
        pairs = [put_together(way, one, other) for one, other in zip(passages[::2], passages[1::2])]
        passages = pairs + passages[2 * len(pairs):]
    return passages[0]


def repeated(passage, times):
    """A passage so many times behind itself, from once on."""
    if times == 1:
        return passage
    half = repeated(passage, times // 2)
    twice = half + half
    return twice + passage if times % 2 == 1 else twice


def surroundings(way, passages):
    """For each passage two lists of one or none: all that is ahead of it put together, and all that is behind it."""
    ahead = [[]]
    for passage in passages[:-1]:
        ahead.append([all_together(way, [*ahead[-1], passage])])
    behind = [[]]
    for passage in passages[:0:-1]:
        behind.append([all_together(way, [passage, *behind[-1]])])
    return list(zip(ahead, behind[::-1]))
