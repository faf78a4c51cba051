"""Shards: a log of entries, kept at several seats of which some may be down or late."""

from asifread.coding import is_entry
from asifread.disk import Disk
from asifread.errors import BadEntry, NoFall, NoSeat, NotSure
from asifread.kinds import check_count, is_between
from asifread.shelves import MOST_GIVEN, Shelf

MOST_SEATS = 5


class Seat:
    """A Disk with the Shelf on it; whether the seat is up, and on time."""

    def __init__(self):
        self.disk = Disk()
        self.shelf = Shelf(self.disk)
        self.up = True
        self.prompt = True
        # How many writes were done ahead of the Shelf's last deed; None where that was no seal or pour.
        self.ahead = None

    def supply(self, log):
        """Give all of the log that the seat lacks, if it is up and on time."""
        while self.up and self.prompt and self.shelf.moment() < len(log):
            moment = self.shelf.moment()
            self.shelf.give(log[moment:moment + MOST_GIVEN])
            self.ahead = None


class Shard:
    """A log of entries, and the seats that are given them."""

    def __init__(self, seats=3):
        check_count(seats, 1, MOST_SEATS)
        self.entries = []
        self.seats = [Seat() for _ in range(seats)]

    def offer(self, entry):
        """The entry is the log's next."""
        if not is_entry(entry):
            raise BadEntry(0)
        self.entries.append(entry)
        for seat in self.seats:
            seat.supply(self.entries)

    def fall(self, seat, *, undone=0):
        """The seat is up no more; of its last deed the first write alone was done (1), or none (2)."""
        here = self.up_seat(seat)
        if not is_between(undone, 0, 2) or undone > 0 and here.ahead is None:
            raise NoFall("it cannot fall so")
        if undone > 0:
            # The elder Shelf still tells how many entries there are: no seal and no pour changes that.
            here.disk = here.disk.cut(here.ahead + 2 - undone)
        here.up = False

    def rise(self, seat):
        """The seat is up again, its Shelf opened anew."""
        here = self.seat_at(seat)
        if here.up:
            raise NoSeat("the seat is up already")
        here.shelf = Shelf(here.disk)
        here.ahead = None
        here.up = True
        here.supply(self.entries)

    def late(self, seat):
        """The seat is on time no more."""
        here = self.seat_at(seat)
        if not here.prompt:
            raise NoSeat("the seat is late already")
        here.prompt = False

    def on_time(self, seat):
        """The seat is on time again."""
        here = self.seat_at(seat)
        if here.prompt:
            raise NoSeat("the seat is on time already")
        here.prompt = True
        here.supply(self.entries)

    def seal(self, seat):
        """Seal the seat's Shelf; tell how many entries that were."""
        here = self.up_seat(seat)
        writes = here.disk.writes()
        many = here.shelf.seal()
        if many > 0:
            here.ahead = writes
        return many

    def pour(self, seat, at):
        """Pour the parts at this place and the next one of the seat's Shelf together."""
        here = self.up_seat(seat)
        writes = here.disk.writes()
        here.shelf.pour(at)
        here.ahead = writes

    def trim(self, seat):
        """Let the floor of the seat's Shelf be at least what is surely held, as far as it has that."""
        here = self.up_seat(seat)
        here.shelf.trim(min(self.sure(), here.shelf.moment()))
        here.ahead = None

    def sure(self):
        """The greatest number of entries that more than half of all seats have."""
        moments = sorted(self.moments())
        return moments[(len(moments) - 1) // 2]

    def moments(self):
        """The list of how many entries each seat has."""
        return [seat.shelf.moment() for seat in self.seats]

    def log(self):
        """The list of all entries that were offered."""
        return list(self.entries)

    def view(self, *, struck=()):
        """The View of what is surely held, of the first seat that can tell it."""
        moment = self.sure()
        for seat in self.seats:
            if seat.up and seat.shelf.moment() >= moment:
                return seat.shelf.view(moment, struck=struck)
        raise NotSure(None)

    def seat_at(self, seat):
        """The Seat of that number."""
        if not is_between(seat, 0, len(self.seats) - 1):
            raise NoSeat("no such seat")
        return self.seats[seat]

    def up_seat(self, seat):
        """The Seat of that number, which is up."""
        here = self.seat_at(seat)
        if not here.up:
            raise NoSeat("the seat is not up")
        return here
