"""Nets whose cars try all streets, start by start, to test nets against."""
from tests.model import Table
from tests.road_model import chance_text, model_table


def model_arrivals(streets, go, begin, moment):
    """A dict of the earliest arrivals, found by trying all streets until nobody arrives sooner."""
    found = {begin: moment}
    changed = True
    while changed:
        changed = False
        for index, (start, end, _) in enumerate(streets):
            if start in found:
                arrival = go(index, found[start])
                if end not in found or arrival < found[end]:
                    found[end] = arrival
                    changed = True
    return found


def model_tables(cycle, streets, closed=None):
    """A dict from each place to the dict from the places that can be reached from it to their tables."""
    tables = [model_table(cycle, text) for _, _, text in streets]
    rows = [(begin, end, "") if index != closed else ("", "", "") for index, (begin, end, _) in enumerate(streets)]
    found = {}
    for place in places_of(streets):
        arrivals = [model_arrivals(rows, lambda index, moment: tables[index](moment), place, start)
                    for start in range(cycle)]
        found[place] = {goal: Table([row[goal] for row in arrivals]) for goal in sorted(arrivals[0])}
    return found


def places_of(streets):
    return sorted({place for begin, end, _ in streets for place in (begin, end)})


def rows_of(tables):
    """Tables of model_tables as plain values."""
    return {place: {goal: table.row for goal, table in row.items()} for place, row in tables.items()}


def chance_street_text(source, cycle, many, depth, unit=1):
    """The text of a road that takes at least one tick."""
    text = chance_text(source, cycle, many, depth, unit)
    return f"{text} {min(source.randint(1, 2 * cycle) * unit, 10 ** 30)}".strip()


def chance_streets(source, cycle, places, many, depth=1, unit=1):
    names = ["a", "b", "c", "dd", "eeeeeeee", "zz", "b", "x", "y", "w", "v", "u", "t"][:places]
    return [(source.choice(names), source.choice(names),
             chance_street_text(source, cycle, source.choice([0, 1, 2, 4]), depth, unit)) for _ in range(many)]
