"""Records: what is known of a passage of which some starts and their arrivals were written down."""
from greenroads.checks import check_cycle, check_moment, check_number_in, is_whole
from greenroads.errors import Contradiction, InvalidRecords
from greenroads.passages import Passage, greatest_difference, travel_of
from greenroads.together import BOTH, SOONER, all_together

MOST_RECORDS = 40
MOST_TRAVEL = 10 ** 30


def is_record(value):
    """Whether any value is a tuple of two integers."""
    return isinstance(value, tuple) and len(value) == 2 and all([is_whole(part) for part in value])


def check_records(cycle, travel, records):
    """InvalidCycle, InvalidNumber or InvalidRecords unless the values are a cycle, a travel and records."""
    check_cycle(cycle)
    check_number_in(travel, 0, MOST_TRAVEL)
    if not isinstance(records, list) or not 1 <= len(records) <= MOST_RECORDS:
        raise InvalidRecords(None)
    for row, record in enumerate(records):
        if not is_record(record):
            raise InvalidRecords(row)


def overtakes(cycle, record, other):
    """Whether a record, moved by some cycles, starts not after another one and arrives later."""
    start, arrival = record
    # The more it is moved, the later it arrives.
    ticks = (other[0] - start) // cycle * cycle
    return arrival + ticks > other[1]


def contradiction_in(cycle, travel, records):
    """The least tuple of the indices of records that contradict each other, or of a record and itself, or None."""
    for first, record in enumerate(records):
        if record[1] - record[0] < travel:
            return first, first
        for second in range(first + 1, len(records)):
            if overtakes(cycle, record, records[second]) or overtakes(cycle, records[second], record):
                return first, second
    return None


def check_no_contradiction(cycle, travel, records):
    """Contradiction if no passage has all records."""
    found = contradiction_in(cycle, travel, records)
    if found is not None:
        raise Contradiction(found[0], found[1])


def fits(cycle, travel, records):
    """Whether there is a passage with all records that takes no start less than the travel."""
    check_records(cycle, travel, records)
    return contradiction_in(cycle, travel, records) is None


def lowest(cycle, travel, records):
    """The least passage with all records."""
    check_records(cycle, travel, records)
    check_no_contradiction(cycle, travel, records)
    # From the start of a record on nobody arrives ahead of it, up to the same record in the next cycle.
    steps = [Passage(cycle, ((start + cycle - 1, start + cycle - 1, arrival),)) for start, arrival in records]
    return all_together(BOTH, [travel_of(cycle, travel), *steps])


def highest(cycle, travel, records):
    """The greatest passage with all records."""
    check_records(cycle, travel, records)
    check_no_contradiction(cycle, travel, records)
    # Up to the start of a record nobody arrives behind it.
    return all_together(SOONER, [Passage(cycle, ((start, start, arrival),)) for start, arrival in records])


def certain(cycle, travel, records, start):
    """The arrival of a start if it is the same with all passages that have the records, otherwise None."""
    check_records(cycle, travel, records)
    check_moment(start)
    low, high = lowest(cycle, travel, records), highest(cycle, travel, records)
    return low(start) if low(start) == high(start) else None


def widest(cycle, travel, records):
    """The tuple (greatest difference of the greatest and the least arrival of a start, least start with it)."""
    return greatest_difference(highest(cycle, travel, records), lowest(cycle, travel, records))
