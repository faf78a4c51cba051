"""Deeds as the rows of a log tell them, done to a house."""

from asifread.addresses import is_address
from asifread.errors import AsIfError
from asifread.kinds import is_just, tupled

# How many things stand in a row of each kind of deed.
LENGTHS = {
    "tick": 2, "fall": 4, "rise": 3, "late": 3, "on_time": 3, "seal": 3, "trim": 3, "pour": 4, "strike": 2, "free": 2,
    "ask": 7,
}
ANSWER_LENGTHS = {"page": 2, "moved": 2, "gone": 1, "silent": 1}
SILENT = ("silent",)


def is_row(thing):
    """Whether the thing is a row of a deed, as far as the house that is led through it doesn't refuse what is none."""
    if not begins_with_text(thing) or LENGTHS.get(thing[0]) != len(thing):
        return False
    if thing[0] == "tick":
        return isinstance(thing[1], tuple) and all([is_look(look) for look in thing[1]])
    return thing[0] != "ask" or isinstance(thing[3], bool)


def begins_with_text(thing):
    """Whether the thing is a tuple whose first thing is a text."""
    return isinstance(thing, tuple) and len(thing) > 0 and isinstance(thing[0], str)


def is_look(thing):
    """Whether the thing is (address, answer)."""
    return isinstance(thing, tuple) and len(thing) == 2 and is_address(thing[0]) and is_answer(thing[1])


def is_answer(thing):
    """Whether the thing is what a world may tell."""
    if not begins_with_text(thing) or ANSWER_LENGTHS.get(thing[0]) != len(thing):
        return False
    return all([isinstance(part, str) for part in thing])


def tick_done(house, looks):
    """A tick of a world that tells what these looks tell."""
    answers = dict(looks)
    return house.tick(lambda address, tick: answers.get(address, SILENT))


def fall_done(house, shard, seat, undone):
    """A fall."""
    house.fall(shard, seat, undone=undone)


def rise_done(house, shard, seat):
    """A rise."""
    house.rise(shard, seat)


def late_done(house, shard, seat):
    """A seat is late."""
    house.late(shard, seat)


def on_time_done(house, shard, seat):
    """A seat is on time."""
    house.on_time(shard, seat)


def seal_done(house, shard, seat):
    """A seal."""
    house.seal(shard, seat)


def trim_done(house, shard, seat):
    """A trim."""
    house.trim(shard, seat)


def pour_done(house, shard, seat, at):
    """A pour."""
    house.pour(shard, seat, at)


def strike_done(house, prefix):
    """A prefix is struck."""
    house.strike(prefix)


def free_done(house, prefix):
    """A prefix is free."""
    house.free(prefix)


def ask_done(house, text, k, dark):
    """A question."""
    return house.ask(text, k=k, dark=dark)


DONE = {
    "tick": tick_done, "fall": fall_done, "rise": rise_done, "late": late_done, "on_time": on_time_done,
    "seal": seal_done, "trim": trim_done, "pour": pour_done, "strike": strike_done, "free": free_done, "ask": ask_done,
}


def do(house, row):
    """Do to the house what the row tells; tell the looks of a tick, the answer of a question."""
    action = DONE[row[0]]
    # What stands behind these in the row of a question is its answer.
    rest = row[1:4]
    return action(house, *rest)


def goes_on(house, row):
    """Whether the thing is a row that the house, led through it, tells just so."""
    if not is_row(row):
        return False
    try:
        told = do(house, row)
    except AsIfError:
        return False
    if row[0] == "tick":
        return is_just(row[1], tupled(told))
    return row[0] != "ask" or is_just(row[4:], tupled(told))
