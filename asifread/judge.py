"""The judge, who tells from a log alone whether all was so; and a house led through a log again."""

from asifread.deeds import begins_with_text, goes_on
from asifread.errors import AsIfError, NoLog
from asifread.house import House
from asifread.kinds import is_list
from asifread.plainhouse import PlainHouse

BEGUN_LENGTH = 7


def judged(log):
    """The number of the first row that isn't so, or None."""
    if not begins(log):
        return 0
    _, seeds, shards, seats, gap, lanes, most = log[0]
    try:
        house = PlainHouse(seeds, shards=shards, seats=seats, gap=gap, lanes=lanes, most=most)
    except AsIfError:
        return 0
    return first_otherwise(house, log)


def again(log):
    """A new House led through the log."""
    if not begins(log):
        raise NoLog(0)
    _, seeds, shards, seats, gap, lanes, most = log[0]
    try:
        house = House(seeds, shards=shards, seats=seats, gap=gap, lanes=lanes, most=most)
    except AsIfError:
        raise NoLog(0)
    at = first_otherwise(house, log)
    if at is not None:
        raise NoLog(at)
    return house


def begins(log):
    """Whether the thing is a list whose first row is one of what a House began with."""
    if not is_list(log) or len(log) == 0:
        return False
    row = log[0]
    if not begins_with_text(row) or len(row) != BEGUN_LENGTH:
        return False
    return row[0] == "begun" and isinstance(row[1], tuple)


def first_otherwise(house, log):
    """The number of the first row behind the first one through which the house can't be led just so, or None."""
    for at, row in enumerate(log[1:], start=1):
        if not goes_on(house, row):
            return at
    return None
