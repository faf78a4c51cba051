"""Point [19]: shards; of point [2](b) and (c), what they say of one Shard."""

import copy
import random
import unittest
from unittest import mock

from asifread import shards
from asifread.errors import BadCount, BadEntry, NoFall, NoPart, NoSeat, NotSure
from asifread.shards import Shard
from asifread.shelves import Shelf
from asifread.views import View
from others import DEEP, NO_TEXTS, Strange
from test_addresses import NO_ADDRESSES
from test_coding import NO_TICKS
from test_disk import NO_NUMBERS
from test_parts import some_entry
from test_shelves import A1, A2, A3, B1, view_told
from test_views import PREFIXES, plainly_told

NO_SEATS = NO_NUMBERS + DEEP + NO_TEXTS


def entries(many):
    """So many unlike entries."""
    return [(f"a/{at}", f"cat {at}", at) for at in range(many)]


def all_told(shard):
    """All that a Shard tells."""
    try:
        view = view_told(shard.view())
    except NotSure as error:
        view = ("not sure", error.shard)
    return shard.sure(), shard.moments(), shard.log(), view


class PlainSeat:
    """What a seat should tell: how many entries it has, and where its parts end."""

    def __init__(self):
        self.have, self.ends, self.up, self.prompt, self.ahead = 0, [], True, True, None


class PlainShard:
    """What a Shard should do and tell; where it should refuse, it tells the refusal's class."""

    def __init__(self, seats):
        self.log = []
        self.seats = [PlainSeat() for _ in range(seats)]

    def supply(self):
        for seat in self.seats:
            if seat.up and seat.prompt and seat.have < len(self.log):
                seat.have, seat.ahead = len(self.log), None

    def offer(self, entry):
        self.log.append(entry)
        self.supply()

    def fall(self, seat, undone=0):
        here = self.seats[seat]
        if not here.up:
            return NoSeat
        if type(undone) is not int or undone not in (0, 1, 2) or undone and here.ahead is None:
            return NoFall
        if undone == 2:
            here.ends = here.ahead
        here.up = False

    def rise(self, seat):
        here = self.seats[seat]
        if here.up:
            return NoSeat
        here.up, here.ahead = True, None
        self.supply()

    def late(self, seat):
        here = self.seats[seat]
        if not here.prompt:
            return NoSeat
        here.prompt = False

    def on_time(self, seat):
        here = self.seats[seat]
        if here.prompt:
            return NoSeat
        here.prompt = True
        self.supply()

    def seal(self, seat):
        here = self.seats[seat]
        if not here.up:
            return NoSeat
        many = here.have - ([0] + here.ends)[-1]
        if many:
            here.ahead = list(here.ends)
            here.ends.append(here.have)
        return many

    def pour(self, seat, at):
        here = self.seats[seat]
        if not here.up:
            return NoSeat
        if not at < len(here.ends) - 1:
            return NoPart
        here.ahead = list(here.ends)
        del here.ends[at]

    def trim(self, seat):
        here = self.seats[seat]
        if not here.up:
            return NoSeat
        here.ahead = None

    def all_told(self):
        have = [seat.have for seat in self.seats]
        sure = max(many for many in range(len(self.log) + 1) if sum(one >= many for one in have) * 2 > len(have))
        lit = any(seat.up and seat.have >= sure for seat in self.seats)
        view = plainly_told(self.log[:sure], ()) if lit else ("not sure", None)
        return sure, have, self.log, view


def some_deed(chance, shard, plain):
    """One deed of chance at both; both tell the same."""
    seat = chance.randrange(len(plain.seats))
    kind = chance.choice("offer offer offer fall rise rise late on_time on_time seal seal pour pour trim".split())
    if kind == "offer":
        entry = some_entry(chance)
        shard.offer(entry)
        plain.offer(entry)
        return
    more, by_name = [], {}
    if kind == "pour":
        more = [chance.randrange(4)]
    if kind == "fall":
        by_name = chance.choice(({}, {"undone": 0}, {"undone": 1}, {"undone": 2}, {"undone": 1}, {"undone": 2}))
    wanted = getattr(plain, kind)(seat, *more, **by_name)
    try:
        told = getattr(shard, kind)(seat, *more, **by_name)
    except (NoSeat, NoPart, NoFall) as error:
        told = type(error)
    assert told is wanted or kind == "seal" and told == wanted, (kind, told, wanted)


class ShardTest(unittest.TestCase):
    def setUp(self):
        self.shard = Shard()

    def refused(self, kind, method, *arguments, **by_name):
        before = all_told(self.shard)
        with self.assertRaises(kind) as caught:
            getattr(self.shard, method)(*arguments, **by_name)
        self.assertEqual(all_told(self.shard), before)
        return caught.exception

    def test_counts_of_seats(self):
        for many in range(1, 6):
            self.assertEqual(Shard(many).moments(), [0] * many)
            self.assertEqual(Shard(seats=many).moments(), [0] * many)
        self.assertEqual(Shard().moments(), [0, 0, 0])

    def test_bad_counts_of_seats(self):
        for seats in NO_SEATS + [6, 7, 100, -1]:
            if not (isinstance(seats, int) and not isinstance(seats, bool) and 1 <= seats <= 5):
                with self.assertRaises(BadCount):
                    Shard(seats)
                with self.assertRaises(BadCount):
                    Shard(seats=seats)

    def test_at_first(self):
        for many in range(1, 6):
            shard = Shard(many)
            self.assertEqual((shard.sure(), shard.moments(), shard.log()), (0, [0] * many, []))
            self.assertIsInstance(shard.view(), View)
            self.assertEqual(shard.view().book(), {})

    def test_offer(self):
        self.assertIsNone(self.shard.offer(A1))
        self.assertIsNone(self.shard.offer(entry=B1))
        self.assertEqual((self.shard.log(), self.shard.moments(), self.shard.sure()), ([A1, B1], [2, 2, 2], 2))
        self.assertEqual(self.shard.view().book(), {"a/": ("cat", 1), "b/": ("bird", 1)})
        self.shard.offer(A3)
        self.assertEqual(self.shard.view().book(), {"b/": ("bird", 1)})

    def test_no_entries(self):
        self.shard.offer(A1)
        things = [(thing, "cat", 1) for thing in NO_ADDRESSES + NO_TEXTS] + [("a/", "cat", thing) for thing in NO_TICKS]
        things += [("a/", thing, 1) for thing in NO_TEXTS if thing is not None] + NO_TEXTS + DEEP
        for thing in things + ["a/c", ("a/", "cat"), ("a/", "cat", 1, 1), list(A1), [A1], (A1,), Strange()]:
            self.assertEqual(self.refused(BadEntry, "offer", thing).at, 0)

    def test_what_is_told_is_the_askers_own(self):
        self.shard.offer(A1)
        self.shard.log().clear()
        self.shard.moments().clear()
        self.assertEqual((self.shard.log(), self.shard.moments()), ([A1], [1, 1, 1]))
        told = self.shard.log()
        self.shard.offer(B1)
        self.assertEqual(told, [A1])

    def test_seats_that_are_down_or_late_get_nothing(self):
        for method, back in [("fall", "rise"), ("late", "on_time")]:
            shard = Shard()
            shard.offer(A1)
            self.assertIsNone(getattr(shard, method)(1))
            shard.offer(A2)
            shard.offer(A3)
            self.assertEqual(shard.moments(), [3, 1, 3])
            self.assertIsNone(getattr(shard, back)(seat=1))
            self.assertEqual(shard.moments(), [3, 3, 3])

    def test_only_up_and_on_time_together(self):
        shard = self.shard
        shard.fall(0)
        shard.late(0)
        shard.offer(A1)
        self.assertEqual(shard.moments(), [0, 1, 1])
        shard.rise(0)
        self.assertEqual(shard.moments(), [0, 1, 1])
        shard.offer(A2)
        self.assertEqual(shard.moments(), [0, 2, 2])
        shard.fall(0)
        shard.on_time(0)
        self.assertEqual(shard.moments(), [0, 2, 2])
        shard.late(0)
        shard.on_time(0)
        shard.rise(0)
        self.assertEqual(shard.moments(), [2, 2, 2])

    def test_many_at_once(self):
        for many in (1, 8, 9, 10, 17, 18, 19, 27, 40):
            for method, back in [("fall", "rise"), ("late", "on_time")]:
                shard = Shard(2)
                getattr(shard, method)(0)
                for entry in entries(many):
                    shard.offer(entry)
                self.assertEqual(shard.moments(), [0, many])
                getattr(shard, back)(0)
                self.assertEqual(shard.moments(), [many, many])
                shard.fall(1)
                self.assertEqual(len(shard.view().book()), many)

    def test_sure(self):
        for have, sure in [
            ([3], 3), ([3, 1], 1), ([3, 3], 3), ([3, 1, 0], 1), ([3, 3, 0], 3), ([0, 3, 0], 0), ([3, 2, 1, 0], 1), ([3, 3, 2, 0], 2),
            ([3, 3, 0, 0], 0), ([3, 3, 3, 0], 3), ([0, 1, 2, 3, 3], 2), ([3, 0, 0, 0, 3], 0), ([1, 3, 0, 3, 0], 1), ([0, 0, 3, 3, 3], 3),
        ]:
            shard = Shard(len(have))
            for moment, entry in enumerate([A1, B1, A2, A3]):
                for seat, many in enumerate(have):
                    if many == moment:
                        shard.late(seat)
                if moment < 3:
                    shard.offer(entry)
            self.assertEqual((shard.moments(), shard.sure()), (have, sure))
            self.assertEqual(view_told(shard.view()), plainly_told([A1, B1, A2][:sure], ()))
            # Seats that are down count, too.
            for seat in range(len(have)):
                shard.fall(seat)
            self.assertEqual((shard.moments(), shard.sure()), (have, sure))
            with self.assertRaises(NotSure) as caught:
                shard.view()
            self.assertIsNone(caught.exception.shard)

    def test_view_of_the_first_seat_that_can_tell(self):
        shard = Shard(3)
        shard.late(0)
        shard.offer(A1)
        shard.fall(1)
        self.assertEqual((shard.moments(), shard.sure()), ([0, 1, 1], 1))
        self.assertEqual(shard.view().book(), {"a/": ("cat", 1)})
        shard.fall(2)
        with self.assertRaises(NotSure):
            shard.view()
        # A seat that has more than what is surely held tells just that.
        shard.rise(1)
        shard.late(2)
        shard.offer(B1)
        self.assertEqual((shard.moments(), shard.sure()), ([0, 2, 1], 1))
        self.assertEqual(shard.view().book(), {"a/": ("cat", 1)})
        shard.on_time(0)
        self.assertEqual(shard.view().book(), {"a/": ("cat", 1), "b/": ("bird", 1)})

    def test_view_struck(self):
        self.shard.offer(A1)
        self.shard.offer(B1)
        self.assertEqual(self.shard.view(struck=["b"]).shown(), ["a/"])
        self.assertEqual(self.shard.view(struck=("a/", "z")).shown(), ["b/"])
        self.assertEqual(self.shard.view(struck=["a/"]).book(), {"a/": ("cat", 1), "b/": ("bird", 1)})
        struck = ["a/"]
        view = self.shard.view(struck=struck)
        struck.append("b/")
        self.shard.offer(A2)
        self.assertEqual((view.shown(), view.book()["a/"]), (["b/"], ("cat", 1)))
        with self.assertRaises(TypeError):
            self.shard.view(["a/"])

    def test_seal_pour_trim(self):
        shard = self.shard
        self.assertEqual(shard.seal(0), 0)
        for entry in [A1, A2]:
            shard.offer(entry)
        self.assertEqual(shard.seal(0), 2)
        self.assertEqual(shard.seal(seat=0), 0)
        shard.offer(A3)
        self.assertEqual(shard.seal(1), 3)
        self.assertEqual(shard.seal(0), 1)
        self.assertIsNone(shard.trim(0))
        self.assertIsNone(shard.trim(seat=2))
        self.assertIsNone(shard.pour(0, 0))
        self.refused(NoPart, "pour", 0, 0)
        self.refused(NoPart, "pour", 1, 0)
        shard.offer(B1)
        shard.seal(1)
        self.assertIsNone(shard.pour(at=0, seat=1))
        self.assertEqual(all_told(shard)[:3], (4, [4, 4, 4], [A1, A2, A3, B1]))
        for seat in range(3):
            self.assertEqual(shard.view().book(), {"b/": ("bird", 1)})
            if seat < 2:
                shard.fall(seat)

    def test_trim_lets_go_only_what_is_surely_held(self):
        shard = Shard(3)
        for entry in [A1, A2]:
            shard.offer(entry)
        shard.late(1)
        shard.late(2)
        shard.offer(A3)
        self.assertEqual((shard.sure(), shard.moments()), (2, [3, 2, 2]))
        shard.seal(0)
        shard.offer(B1)
        shard.seal(0)
        shard.trim(0)
        shard.pour(0, 0)
        # What is surely held still stands there, though the page is gone behind it.
        self.assertEqual(shard.view().book(), {"a/": ("dog", 2)})
        shard.on_time(1)
        self.assertEqual(shard.view().book(), {"b/": ("bird", 1)})

    def test_trim_of_a_seat_that_lacks_some(self):
        shard = Shard(3)
        shard.offer(A1)
        shard.late(2)
        shard.offer(A2)
        shard.offer(A3)
        self.assertIsNone(shard.trim(2))
        self.assertEqual((shard.sure(), shard.moments()), (3, [3, 3, 1]))
        shard.on_time(2)
        shard.fall(0)
        shard.fall(1)
        self.assertEqual(shard.view().book(), {})

    def test_no_part(self):
        for many in range(3):
            for at in [thing for thing in NO_SEATS if not isinstance(thing, int) or isinstance(thing, bool)] + [-1, many - 1, many]:
                self.refused(NoPart, "pour", 0, at)
            self.shard.offer(A1)
            self.shard.seal(0)

    def test_no_seat_of_anything(self):
        self.shard.offer(A1)
        things = [thing for thing in NO_SEATS if not isinstance(thing, int) or isinstance(thing, bool)]
        for thing in things + [-1, 3, 4, 10 ** 100, -10 ** 100]:
            for method in ("fall", "rise", "late", "on_time", "seal", "trim"):
                self.refused(NoSeat, method, thing)
            for more in (0, -1, None):
                self.refused(NoSeat, "pour", thing, more)
                self.refused(NoSeat, "fall", thing, undone=more)

    def test_no_seat_of_what_is_so_already(self):
        self.refused(NoSeat, "rise", 0)
        self.refused(NoSeat, "on_time", 0)
        self.shard.late(0)
        self.refused(NoSeat, "late", 0)
        self.refused(NoSeat, "rise", 0)
        self.shard.fall(0)
        for undone in (0, 1, 2, 3, None):
            self.refused(NoSeat, "fall", 0, undone=undone)
        self.refused(NoSeat, "late", 0)
        self.shard.on_time(0)
        self.refused(NoSeat, "on_time", 0)
        self.shard.rise(0)
        self.refused(NoSeat, "rise", 0)

    def test_no_seat_where_it_is_not_up(self):
        for entry in [A1, A2]:
            self.shard.offer(entry)
            self.shard.seal(1)
        self.shard.fall(1)
        for method, more in [("seal", []), ("trim", []), ("pour", [0]), ("pour", [9]), ("pour", [None])]:
            self.refused(NoSeat, method, 1, *more)
        self.shard.rise(1)
        self.shard.pour(1, 0)

    def test_late_seats_that_are_up_can_be_sealed(self):
        self.shard.offer(A1)
        self.shard.late(0)
        self.assertEqual(self.shard.seal(0), 1)
        self.shard.trim(0)
        self.shard.offer(A2)
        self.assertEqual(self.shard.seal(0), 0)

    def test_offered_entries_may_not_be_changed(self):
        entry = ("a/", "cat", 1)
        kept = copy.deepcopy(entry)
        self.shard.offer(entry)
        self.assertEqual(entry, kept)


class FallTest(unittest.TestCase):
    """What is undone of a seat's last deed; whether it was is seen by what a seal behind its rising tells."""

    def setUp(self):
        self.shard = Shard(1)
        for entry in [A1, B1, A2]:
            self.shard.offer(entry)

    def no_fall(self, *kinds):
        for undone in kinds or (1, 2):
            before = all_told(self.shard)
            with self.assertRaises(NoFall):
                self.shard.fall(0, undone=undone)
            self.assertEqual(all_told(self.shard), before)

    def falls(self, undone, many, parts):
        """It falls and rises; a seal then tells so many, and so many parts can be poured together."""
        shard = copy.deepcopy(self.shard)
        before = shard.moments(), shard.log(), shard.sure()
        self.assertIsNone(shard.fall(0, undone=undone))
        self.assertEqual((shard.moments(), shard.log(), shard.sure()), before)
        with self.assertRaises(NoSeat):
            shard.seal(0)
        shard.rise(0)
        self.assertEqual(view_told(shard.view()), plainly_told([A1, B1, A2], ()))
        for more in (1, 2):
            with self.assertRaises(NoFall):
                shard.fall(0, undone=more)
        self.assertEqual(shard.seal(0), many)
        for _ in range(parts - 1):
            shard.pour(0, 0)
        with self.assertRaises(NoPart):
            shard.pour(0, 0)
        self.assertEqual(view_told(shard.view()), plainly_told([A1, B1, A2], ()))

    def test_of_a_seal(self):
        self.shard.seal(0)
        self.falls(0, 0, 1)
        self.falls(1, 0, 1)
        self.falls(2, 3, 1)

    def test_of_a_pour(self):
        shard = self.shard = Shard(1)
        for entry in [A1, B1, A2]:
            shard.offer(entry)
            shard.seal(0)
        shard.pour(0, 1)
        self.falls(0, 0, 2)
        self.falls(1, 0, 2)
        self.falls(2, 0, 3)

    def test_of_a_pour_by_the_floor(self):
        shard = Shard(1)
        for entry in [A1, A2]:
            shard.offer(entry)
            shard.seal(0)
        shard.trim(0)
        shard.pour(0, 0)
        for undone in (0, 1, 2):
            other = copy.deepcopy(shard)
            other.fall(0, undone=undone)
            other.rise(0)
            self.assertEqual(view_told(other.view()), plainly_told([A1, A2], ()))
            self.assertEqual(other.moments(), [2])

    def test_none_is_undone_if_it_is_not_told(self):
        self.shard.seal(0)
        self.shard.fall(0)
        self.shard.rise(0)
        self.assertEqual(self.shard.seal(0), 0)

    def test_behind_a_give(self):
        self.no_fall()
        self.shard.seal(0)
        self.shard.offer(A3)
        self.no_fall()

    def test_behind_a_trim(self):
        for trims in (1, 2, 3):
            self.shard = Shard(1)
            self.shard.offer(A1)
            self.shard.seal(0)
            # But the first one, they change nothing.
            for _ in range(trims):
                self.shard.trim(0)
            self.no_fall()
            self.shard.seal(0)
            self.no_fall()
        shard = self.shard = Shard(3)
        shard.late(0)
        shard.trim(0)
        self.no_fall()

    def test_behind_a_rise(self):
        self.no_fall(1, 2)
        self.shard.seal(0)
        self.shard.fall(0)
        self.shard.rise(0)
        self.no_fall()
        self.shard.fall(0)
        self.shard.rise(0)
        self.shard.seal(0)
        self.no_fall()
        self.shard.offer(A3)
        self.shard.seal(0)
        self.shard.fall(0, undone=2)
        self.shard.rise(0)
        self.assertEqual(self.shard.seal(0), 1)

    def test_of_no_deed(self):
        self.shard = Shard(1)
        self.no_fall()
        self.shard.seal(0)
        self.no_fall()

    def test_behind_a_seal_that_did_nothing(self):
        self.shard.seal(0)
        for _ in range(3):
            self.assertEqual(self.shard.seal(0), 0)
        self.falls(1, 0, 1)
        self.falls(2, 3, 1)
        self.shard.trim(0)
        self.shard.seal(0)
        self.no_fall()

    def test_behind_what_was_refused(self):
        self.shard.seal(0)
        with self.assertRaises(NoPart):
            self.shard.pour(0, 0)
        with self.assertRaises(NoFall):
            self.shard.fall(0, undone=3)
        self.falls(2, 3, 1)

    def test_deeds_of_other_seats_do_not_count(self):
        shard = self.shard = Shard(2)
        shard.offer(A1)
        shard.seal(1)
        self.no_fall()
        shard.seal(0)
        shard.trim(1)
        shard.fall(0, undone=2)
        shard.rise(0)
        self.assertEqual(shard.seal(0), 1)

    def test_late_ones(self):
        shard = self.shard = Shard(2)
        shard.offer(A1)
        shard.late(0)
        shard.seal(0)
        shard.offer(A2)
        shard.fall(0, undone=1)
        self.assertEqual(shard.moments(), [1, 2])
        shard.rise(0)
        self.assertEqual(shard.moments(), [1, 2])
        shard.on_time(0)
        self.no_fall()
        self.assertEqual(shard.moments(), [2, 2])
        shard.seal(0)
        shard.late(0)
        shard.offer(A3)
        shard.on_time(0)
        self.no_fall()

    def test_to_be_on_time_without_lacking_anything_is_no_deed(self):
        shard = self.shard
        shard.seal(0)
        shard.late(0)
        shard.on_time(0)
        self.falls(2, 3, 1)

    def test_no_fall_of_anything(self):
        for _ in range(2):
            things = [thing for thing in NO_SEATS if not isinstance(thing, int) or isinstance(thing, bool)]
            self.no_fall(*things, 3, 4, -1, 10 ** 100, Strange())
            self.shard.seal(0)
        with self.assertRaises(TypeError):
            self.shard.fall(0, 1)


class SpiedShelf(Shelf):
    """A Shelf that tells how many entries it was given at once."""

    made = []

    def __init__(self, disk):
        super().__init__(disk)
        self.gives = []
        SpiedShelf.made.append(self)

    def give(self, entries):
        super().give(entries)
        self.gives.append(len(entries))


class ShelvesOfSeatsTest(unittest.TestCase):
    """What can't be seen from without: how the Shelf of a seat is given entries, trimmed, and opened anew."""

    def setUp(self):
        SpiedShelf.made.clear()
        spy = mock.patch.object(shards, "Shelf", SpiedShelf)
        spy.start()
        self.addCleanup(spy.stop)

    def test_at_most_nine_a_give(self):
        for many, gives in [(1, [1]), (8, [8]), (9, [9]), (10, [9, 1]), (18, [9, 9]), (20, [9, 9, 2])]:
            SpiedShelf.made.clear()
            shard = Shard(2)
            shard.late(0)
            shard.fall(1)
            for entry in entries(many):
                shard.offer(entry)
            shard.on_time(0)
            shard.rise(1)
            self.assertEqual([shelf.gives for shelf in SpiedShelf.made], [gives, [], gives])

    def test_offers(self):
        shard = Shard(1)
        for entry in entries(3):
            shard.offer(entry)
        self.assertEqual(SpiedShelf.made[0].gives, [1, 1, 1])

    def test_trim(self):
        shard = Shard(3)
        shard.offer(A1)
        shard.late(2)
        for entry in [A2, A3]:
            shard.offer(entry)
        shard.late(1)
        shard.offer(B1)
        self.assertEqual((shard.sure(), shard.moments()), (3, [4, 3, 1]))
        for seat in range(3):
            shard.trim(seat)
        # The lesser of what is surely held and what the seat has.
        self.assertEqual([shelf.floor() for shelf in SpiedShelf.made], [3, 3, 1])
        shard.seal(0)
        shard.fall(0)
        shard.rise(0)
        opened = SpiedShelf.made[3]
        self.assertEqual((opened.floor(), opened.parts(), opened.moment(), opened.gives), (3, [(0, 4)], 4, []))

    def test_what_is_let_go(self):
        shard = Shard(1)
        for entry in [A1, A2, A3]:
            shard.offer(entry)
            shard.seal(0)
        shard.trim(0)
        shard.pour(0, 0)
        shard.pour(0, 0)
        self.assertEqual(len(SpiedShelf.made[0]), 1)

    def test_what_is_undone(self):
        for kind in ("seal", "pour"):
            for undone in (0, 1, 2):
                SpiedShelf.made.clear()
                shard = Shard(1)
                for entry in [A1, A2]:
                    shard.offer(entry)
                    if kind == "pour":
                        shard.seal(0)
                disk = SpiedShelf.made[0].disk
                writes = disk.writes()
                if kind == "seal":
                    shard.seal(0)
                else:
                    shard.pour(0, 0)
                self.assertGreater(disk.writes(), writes + 1)
                wanted = disk.cut([disk.writes(), writes + 1, writes][undone])
                shard.fall(0, undone=undone)
                shard.rise(0)
                opened = SpiedShelf.made[-1].disk
                self.assertEqual((opened.writes(), opened.names()), (wanted.writes(), wanted.names()))

    def test_each_seat_has_a_disk_of_its_own(self):
        shard = Shard(3)
        shard.offer(A1)
        shard.seal(1)
        self.assertEqual([shelf.parts() for shelf in SpiedShelf.made], [[], [(0, 1)], []])


class ChanceTest(unittest.TestCase):
    def test_deeds_of_chance(self):
        chance = random.Random(91)
        lit = dark = 0
        for _ in range(60):
            seats = chance.randrange(1, 6)
            shard, plain = Shard(seats), PlainShard(seats)
            for _ in range(60):
                some_deed(chance, shard, plain)
                told = all_told(shard)
                self.assertEqual(told, plain.all_told())
                if told[3][0] == "not sure":
                    dark += 1
                    continue
                lit += 1
                if chance.randrange(5) == 0:
                    struck = chance.sample(PREFIXES, chance.choice((1, 2)))
                    wanted = plainly_told(plain.log[:told[0]], struck)
                    self.assertEqual(view_told(shard.view(struck=struck)), wanted)
        self.assertGreater(lit, 500)
        self.assertGreater(dark, 200)

    def test_what_is_surely_held_never_grows_less(self):
        chance = random.Random(92)
        for _ in range(30):
            seats = chance.randrange(1, 6)
            shard, plain = Shard(seats), PlainShard(seats)
            sure = 0
            for _ in range(50):
                some_deed(chance, shard, plain)
                self.assertGreaterEqual(shard.sure(), sure)
                sure = shard.sure()
