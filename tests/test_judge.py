"""Point [23]: judged and again; of point [2], (g)."""

import copy
import random
import unittest
from unittest import mock

from asifread import disk, house, parts, seeking, shards, shelves, views
from asifread.errors import AsIfError, NoFall, NoLog, NoSeat, NoShard
from asifread.house import House
from asifread.judge import again, judged
from houses import ADDRESSES, ASKED, PlainHouse, World, all_told, some_deed
from others import DEEP, NO_TEXTS, Strange
from test_crawling import world_of
from test_house import NO_INDICES, TABLE, filled

BEGUN = ("begun", ("a/",), 2, 3, 2, 2, 24)
TICK = ("tick", (("a/", ("page", "cat [x](b/)")),))


class LaxHouse(PlainHouse):
    """Tells what the judge should: of seals, trims, pours and undone deeds only what he asks for."""

    def at_seat(self, kind, shard, seat, *more, **by_name):
        if kind == "fall" and type(by_name["undone"]) is int and by_name["undone"] in (0, 1, 2):
            return super().at_seat(kind, shard, seat)
        if kind not in ("seal", "trim", "pour"):
            return super().at_seat(kind, shard, seat, *more, **by_name)
        at = more[0] if more else 0
        for number, many in [(shard, len(self.shards)), (seat, self.seats), (at, 10 ** 9)]:
            if isinstance(number, bool) or not isinstance(number, int) or not 0 <= number < many:
                raise NoSeat("")
        if not self.shards[shard].seats[seat].up:
            raise NoSeat("")


def done(plain, row):
    """Do to a plain house what the row tells, and tell the row of its own log."""
    kind, rest = row[0], row[1:]
    before = len(plain.log)
    if kind == "tick":
        answers = dict(rest[0])
        if any(answer[0] not in ("page", "moved", "gone", "silent") for answer in answers.values()):
            raise ValueError
        lengths = {"page": 2, "moved": 2, "gone": 1, "silent": 1}
        if any(len(answer) != lengths[answer[0]] or not all(isinstance(part, str) for part in answer) for answer in answers.values()):
            raise ValueError
        plain.tick(lambda address, tick: answers[address])
    elif kind == "ask":
        if not isinstance(rest[2], bool):
            raise ValueError
        plain.ask(rest[0], k=rest[1], dark=rest[2])
    elif kind in ("strike", "free"):
        getattr(plain, kind)(*rest)
    elif kind == "fall":
        shard, seat, undone = rest
        plain.at_seat("fall", shard, seat, undone=undone)
    elif kind in ("rise", "late", "on_time", "seal", "trim"):
        shard, seat = rest
        plain.at_seat(kind, shard, seat)
    else:
        kind, shard, seat, at = row
        if kind != "pour" or isinstance(at, bool) or at < 0:
            raise ValueError
        plain.at_seat(kind, shard, seat, at)
    told = plain.log[before:] or [row]
    if kind == "fall":
        told = [told[0][:3] + (undone,)]
    return told[0]


def plainly_judged(log, kind):
    """The number of the first row that a plain house of that kind refuses or tells otherwise."""
    try:
        _, seeds, shards, seats, gap, lanes, most = log[0]
        real = House(seeds, shards=shards, seats=seats, gap=gap, lanes=lanes, most=most)
        if repr(real.log()[0]) != repr(log[0]):
            return 0
        plain = kind(*log[0][1:])
    except Exception:
        return 0
    for at, row in enumerate(log[1:], start=1):
        try:
            if not isinstance(row, tuple) or repr(done(plain, row)) != repr(row):
                return at
        except Exception:
            return at
    return None


def otherwise(chance, thing):
    """The thing with something otherwise."""
    if isinstance(thing, tuple) and thing and chance.randrange(8):
        at = chance.randrange(len(thing))
        return thing[:at] + (otherwise(chance, thing[at]),) + thing[at + 1:]
    found = [None, True, False, 0, 1, "", "a", (), [], "a/", 2, ("a",)]
    if isinstance(thing, bool):
        found += [int(thing), not thing] * 3
    elif isinstance(thing, int):
        found += [thing + 1, thing - 1, bool(thing), str(thing), float(thing)] * 2
    elif isinstance(thing, str):
        found += [thing + "a", thing[1:], thing[:-1], thing + " ", " " + thing, thing + "/", chance.choice(ADDRESSES)] * 2
        found += ["gone", "silent", "rise", "cat", thing.replace("cat", "dog"), thing.upper()]
    elif isinstance(thing, tuple):
        at, to = chance.randrange(len(thing) + 1), chance.randrange(len(thing) + 1)
        found += [list(thing), thing[:at] + thing[at + 1:], thing[:at] + thing[at:at + 1] * 2 + thing[at + 1:], thing[::-1]] * 3
        found += [thing[:min(at, to)] + thing[max(at, to):], thing + (None,), thing + ((),)]
    return chance.choice(found)


def some_log(chance, many):
    """The log of a House behind so many deeds of chance."""
    numbers = {"gap": chance.randrange(1, 3), "lanes": chance.randrange(1, 5), "most": chance.randrange(4, 25)}
    shards, seats = chance.randrange(1, 5), chance.randrange(1, 6)
    seeds = chance.sample(ADDRESSES, chance.randrange(1, 4))
    one, plain = House(seeds, shards=shards, seats=seats, **numbers), PlainHouse(seeds, shards, seats, **numbers)
    world = World(chance)
    for _ in range(many):
        some_deed(chance, one, plain, world)
    return one


class JudgedTest(unittest.TestCase):
    def test_of_the_log_of_a_house(self):
        for house in (House(["a/"]), House(["a/", "b/"], shards=4, seats=5, gap=9, lanes=9, most=60), filled(5)):
            self.assertIsNone(judged(house.log()))
            self.assertIsNone(judged(tuple(house.log())))
            self.assertIsNone(judged(log=house.log()))

    def test_of_each_beginning_of_logs_of_chance(self):
        chance = random.Random(131)
        for _ in range(12):
            log = some_log(chance, 60).log()
            for many in range(1, len(log) + 1, 7):
                self.assertIsNone(judged(log[:many]))
            self.assertIsNone(judged(log))

    def test_0_of_no_list_or_of_none(self):
        for thing in NO_TEXTS + DEEP + ["", "begun", {0: BEGUN}, {BEGUN}, iter([BEGUN]), BEGUN, [], ()]:
            self.assertEqual(judged(thing), 0)

    def test_begun(self):
        self.assertIsNone(judged([BEGUN]))
        for at in range(7):
            things = NO_TEXTS + DEEP + ["", "a", "a/", -1, 0, 5, 6, 10, 61, 2.0, Strange(), ["a/"], ("a",), ("a/", "a/"), (["a/"],)]
            for thing in things:
                row = BEGUN[:at] + (thing,) + BEGUN[at + 1:]
                greatest = (0, 0, 4, 5, 9, 9, 60)[at]
                fine = isinstance(thing, int) and not isinstance(thing, bool) and 1 <= thing <= greatest
                fine = fine or at == 1 and isinstance(thing, tuple) and thing == ("a/",)
                self.assertEqual(judged([row]), None if fine else 0, (at,))
                self.assertEqual(judged([row, TICK, None]), (2 if thing != ("a/", "b/") else 1) if fine else 0)
        for row in [(), BEGUN[:-1], BEGUN + (1,), list(BEGUN), TICK, None, "begun", BEGUN[1:], (BEGUN,), [BEGUN]]:
            self.assertEqual(judged([row]), 0)
        self.assertEqual(judged([BEGUN, BEGUN]), 1)
        self.assertEqual(judged([("begun", tuple(f"a/{at}" for at in range(25)), 2, 3, 2, 2, 24)]), 0)

    def bad(self, *rows, log=(BEGUN, TICK)):
        """Each of these rows isn't so, behind this log."""
        self.assertIsNone(judged(log))
        for row in rows:
            self.assertEqual(judged([*log, row]), len(log))
            self.assertEqual(judged([*log, row, None]), len(log))

    def good(self, *rows, log=(BEGUN, TICK)):
        """Each of these rows is so, behind this log."""
        for row in rows:
            self.assertIsNone(judged([*log, row]), row)

    def test_no_rows(self):
        things = [thing for thing in NO_TEXTS + DEEP + ["", "tick", "rise", Strange()]]
        self.bad(*things)
        self.bad(*[(thing,) for thing in things], *[(thing, 0, 0) for thing in things], *[[thing] for thing in things])
        kinds = "tick fall rise late on_time seal trim pour strike free ask begun".split()
        self.bad(*[(kind,) + (0,) * many for kind in kinds for many in (0, 5, 7, 9)])
        self.bad(("rise", 0), ("seal", 0), ("seal", 0, 0, 0), ("pour", 0, 0), ("fall", 0, 0), ("fall", 0, 0, 0, 0), ["seal", 0, 0])
        self.bad(("strike", "b", "c"), ("strike",), ("tick", (), ()), ("rises", 0, 0), ("Seal", 0, 0), ("seal ", 0, 0))
        self.good(("tick", (("b/", ("silent",)),)), ("seal", 0, 0), ("strike", "b"), ("fall", 0, 0, 0))

    def test_numbers(self):
        for thing in NO_INDICES + [-1, 5, 10 ** 100]:
            for kind in ("late", "seal", "trim"):
                self.bad((kind, thing, 0), (kind, 0, thing))
            self.bad(("fall", thing, 0, 0), ("fall", 0, thing, 0), ("fall", 0, 0, thing))
            self.bad(("pour", thing, 0, 0), ("pour", 0, thing, 0))
            if thing not in (5, 10 ** 100):
                self.bad(("pour", 0, 0, thing))
        self.bad(("late", 2, 0), ("late", 0, 3), ("fall", 0, 0, 3))

    def test_seals_trims_pours_and_what_was_undone(self):
        # Whether a House could do them isn't asked.
        self.good(("seal", 1, 2), ("trim", 0, 0), ("pour", 0, 0, 0), ("pour", 1, 2, 10 ** 9), ("fall", 0, 0, 1), ("fall", 0, 0, 2))
        log = (BEGUN, TICK, ("fall", 0, 0, 2))
        self.bad(("seal", 0, 0), ("trim", 0, 0), ("pour", 0, 0, 0), ("fall", 0, 0, 0), ("fall", 0, 0, 1), log=log)
        self.good(("seal", 0, 1), ("rise", 0, 0), log=log)
        self.good(("seal", 0, 0), log=log + (("rise", 0, 0),))

    def test_seats(self):
        self.bad(("rise", 0, 0), ("on_time", 0, 0))
        self.good(("late", 0, 0))
        self.bad(("late", 0, 0), ("rise", 0, 0), log=(BEGUN, ("late", 0, 0)))
        self.good(("on_time", 0, 0), ("late", 1, 0), ("fall", 0, 0, 0), log=(BEGUN, ("late", 0, 0)))
        self.bad(("fall", 0, 0, 0), log=(BEGUN, ("fall", 0, 0, 0)))
        self.good(("rise", 0, 0), ("late", 0, 0), log=(BEGUN, ("fall", 0, 0, 0)))

    def test_prefixes(self):
        self.good(("strike", "a"), ("strike", "x" * 35), ("strike", " "))
        self.bad(("strike", ""), ("strike", "x" * 36), ("free", "a"), *[("strike", thing) for thing in NO_TEXTS + DEEP])
        log = (BEGUN, ("strike", "a"))
        self.bad(("strike", "a"), ("free", "b"), ("free", ""), *[("free", thing) for thing in NO_TEXTS + DEEP], log=log)
        self.good(("strike", "b"), ("free", "a"), log=log)
        self.bad(("free", "a"), log=log + (("free", "a"),))

    def test_looks(self):
        look = ("b/", ("page", "dog"))
        self.good(("tick", (look,)), ("tick", (("b/", ("moved", "no")),)), ("tick", (("b/", ("gone",)),)), ("tick", (("b/", ("page", "")),)))
        # Not picked, one more, one less, in lists, with more or less within.
        self.bad(
            ("tick", (("a/", ("page", "dog")),)), ("tick", ()), ("tick", (look, look)), ("tick", (look, ("c/", ("gone",)))),
            ("tick", [look]), ("tick", (list(look),)), ("tick", (("b/", ["page", "dog"]),)), ("tick", look), ("tick", (look + (1,),)),
            ("tick", (("b/",),)), ("tick", (("b/", ("page",)),)), ("tick", (("b/", ("page", "dog", 1)),)), ("tick", (("b/", ()),)),
            ("tick", (("b/", ("gone", None)),)), ("tick", (("b/", ("silent", "")),)), ("tick", (("b/", ("moved",)),)),
            ("tick", (("b/", ("page", None)),)), ("tick", (("b/", ("moved", 1)),)), ("tick", (("b/", "gone"),)), ("tick", (("b", ("gone",)),)),
            ("tick", (("b/", ("lost",)),)), ("tick", (("b/", (("gone",),)),)),
        )
        for thing in NO_TEXTS + DEEP + [Strange()]:
            if thing != ():
                self.bad(("tick", thing))
            self.bad(
                ("tick", (thing,)), ("tick", ((thing, ("gone",)),)), ("tick", (("b/", thing),)), ("tick", (("b/", (thing,)),)),
                ("tick", (("b/", ("page", thing)),)), ("tick", (look, thing)), ("tick", (("b/", ("moved", thing)),)),
            )
        two = (("begun", ("a/", "b/"), 2, 3, 2, 2, 24),)
        looks = (("a/", ("gone",)), ("b/", ("gone",)))
        self.good(("tick", looks), log=two)
        self.bad(("tick", looks[::-1]), ("tick", looks[:1]), ("tick", looks[1:]), log=two)

    def test_asks(self):
        house = filled(4)
        for text, k, dark in [("cat", 5, False), ("cat | dgo", 1, True), ("zzz", 10, False), ("-cat brid", 3, True)]:
            house.ask(text, k=k, dark=dark)
            log, row = house.log()[:-1], house.log()[-1]
            self.good(row, log=log)
            _, text, k, dark, hits, words, left_out = row
            for thing in NO_TEXTS + DEEP + [Strange(), "", "(", 0, 11, (0,), (True,)]:
                for at in range(1, 7):
                    alike = type(thing) is type(row[at]) and thing == row[at]
                    if not alike and not (at == 3 and isinstance(thing, bool)):
                        if not (at == 2 and type(thing) is int and 1 <= thing <= 10):
                            self.bad(row[:at] + (thing,) + row[at + 1:], log=log)
            # Where all Shards have a view, dark or not tells the same.
            self.good(("ask", text, k, not dark, hits, words, left_out), log=log)
            self.bad(("ask", text, k, int(dark), hits, words, left_out), ("ask", text, k, dark, hits, words, (0,)), log=log)
            self.bad(row + (1,), row[:-1], list(row), log=log)

    def test_asks_with_something_otherwise(self):
        house = filled(4)
        house.ask("cat | dgo")
        log, row = house.log()[:-1], house.log()[-1]
        (one, other), words = row[4], row[5]
        address, worth, rows, tick, (text, places) = one
        for hits in [
            (), (one,), (other,), (other, one), (one, one), (one, other, other), [one, other], (list(one), other), (one[:4], other),
            (one + (0,), other), (("b/", worth, rows, tick, (text, places)), other), ((address, worth + 1, rows, tick, (text, places)), other),
            ((address, worth, rows[::-1], tick, (text, places)), other), ((address, worth, rows[1:], tick, (text, places)), other),
            ((address, worth, list(rows), tick, (text, places)), other), ((address, worth, rows, tick + 1, (text, places)), other),
            ((address, worth, (rows[0][:4] + (rows[0][4] + 1,),) + rows[1:], tick, (text, places)), other),
            ((address, worth, (list(rows[0]),) + rows[1:], tick, (text, places)), other),
            ((address, worth, rows, bool(tick), (text, places)), other), ((address, worth, rows, tick, (text + ".", places)), other),
            ((address, worth, rows, tick, (text, ())), other), ((address, worth, rows, tick, (text, list(places))), other),
            ((address, worth, rows, tick, [text, places]), other), ((address, worth, rows, tick, (text, ((0, 3),))), other),
        ]:
            self.bad(row[:4] + (hits,) + row[5:], log=log)
        self.assertEqual(words, (("dgo", "dog"),))
        for told in [(), (("dgo", "cat"),), (("dgo", "dog"), ("cat", "cat")), (("cat", "dog"),), [("dgo", "dog")], (["dgo", "dog"],), {"dgo": "dog"}, "dog"]:
            self.bad(row[:5] + (told,) + row[6:], log=log)
        self.good(row, ("ask", " cat |dgo ") + row[2:], log=log)
        self.bad(("ask", "cat | dog") + row[2:], ("ask", "cat") + row[2:], row[:2] + (1,) + row[3:], log=log)

    def test_asks_where_too_few_seats_are_left(self):
        house = filled(4)
        for seat in range(3):
            house.fall(1, seat)
        house.ask("cat", dark=True)
        log, row = house.log()[:-1], house.log()[-1]
        self.assertEqual(row[6], (1,))
        self.good(row, log=log)
        self.bad(row[:3] + (False,) + row[4:], row[:6] + ((),), row[:6] + ((0, 1),), row[:6] + ((True,),), row[:6] + ([1],), row[:6] + ((0,),), log=log)

    def test_asks_where_the_seat_that_is_up_has_too_few(self):
        house = filled(1)
        house.late(1, 0)
        for _ in range(2):
            house.tick(world_of(TABLE)[0])
        for seat in (1, 2):
            house.fall(1, seat)
        self.assertEqual(house.ask("cat", dark=True)[2], (1,))
        log, row = house.log()[:-1], house.log()[-1]
        self.good(row, log=log)
        self.bad(row[:3] + (False,) + row[4:], row[:6] + ((),), log=log)
        house.on_time(1, 0)
        house.ask("cat")
        log, row = house.log()[:-1], house.log()[-1]
        self.assertEqual((row[6], [hit[0] for hit in row[4]]), ((), ["a/", "b/"]))
        self.good(row, log=log)
        self.bad(row, log=house.log()[:-2])

    def test_no_deed_left_out_or_done_twice(self):
        log = filled(6).log()
        for at in range(1, len(log)):
            self.assertIsNone(judged(log[:at]))
        for at in range(1, len(log) - 1):
            self.assertEqual(judged(log[:at] + log[at + 1:]), at)
            self.assertEqual(judged(log[:at + 1] + log[at:]), at + 1)

    def test_logs_of_chance_with_something_otherwise(self):
        chance = random.Random(132)
        numbers = []
        for _ in range(25):
            log = some_log(chance, 40).log()
            for _ in range(30):
                at = chance.randrange(len(log))
                other = list(log)
                other[at] = otherwise(chance, log[at])
                if chance.randrange(8) == 0:
                    other = log[:at] + chance.choice(([log[0]], [log[-1]], [], [log[at], log[at]])) + log[at + 1:]
                wanted = plainly_judged(other, LaxHouse)
                told = judged(other)
                self.assertEqual(told, wanted, (other[at:at + 1], log[at]))
                numbers.append((told, at))
        self.assertGreater(sum(told is None for told, at in numbers), 20)
        self.assertGreater(sum(told == at for told, at in numbers), 300)
        # Some tell that something is wrong only later.
        self.assertGreater(sum(told is not None and told > at for told, at in numbers), 20)

    def test_it_needs_no_parts_shelves_or_seeking(self):
        chance = random.Random(133)
        log = some_log(chance, 60).log()
        barred = mock.Mock(side_effect=RuntimeError("barred"))
        with mock.patch.object(parts.Part, "__init__", barred), mock.patch.object(shelves.Shelf, "__init__", barred), \
                mock.patch.object(disk.Disk, "__init__", barred), mock.patch.object(views.View, "__init__", barred), \
                mock.patch.object(shards.Shard, "__init__", barred), mock.patch.object(house, "sought", barred), \
                mock.patch.object(seeking, "sought", barred), mock.patch.object(seeking, "bound", barred), \
                mock.patch.object(seeking, "fair", barred), mock.patch.object(house.House, "__init__", barred):
            self.assertIsNone(judged(log))
            self.assertEqual(judged(log + [("tick", ())] * 2 + [("x",)]) is None, False)
        barred.assert_not_called()

    def test_the_log_stays(self):
        log = some_log(random.Random(134), 30).log()
        before = copy.deepcopy(log)
        judged(log)
        again(log)
        self.assertEqual(log, before)


class AgainTest(unittest.TestCase):
    def refused(self, log, at):
        with self.assertRaises(NoLog) as caught:
            again(log)
        self.assertEqual(caught.exception.at, at)

    def test_a_new_house(self):
        house = filled(5)
        house.strike("b")
        house.ask("cat", k=3)
        other = again(house.log())
        self.assertIsInstance(other, House)
        self.assertEqual(all_told(other), all_told(house))
        self.assertEqual(all_told(again(log=tuple(house.log()))), all_told(house))
        other.free("b")
        self.assertEqual(house.struck(), ["b"])

    def test_goes_on_as_the_first_one_did(self):
        chance = random.Random(135)
        for _ in range(12):
            house = some_log(chance, 50)
            other = again(house.log())
            self.assertEqual(all_told(other)[:5], all_told(house)[:5])
            self.assertEqual(other.deeds(), (len(house.log()) - 1,) * 2)
            for turn in range(60):
                kind = chance.choice("tick ask fall rise late on_time seal seal pour trim".split())
                state = chance.getstate()
                told = []
                for one in (house, other):
                    # The same chance for both.
                    chance.setstate(state)
                    shard, seat = chance.randrange(len(one.sure())), chance.randrange(one.log()[0][3])
                    try:
                        if kind == "tick":
                            told.append(one.tick(World(random.Random(turn))))
                        elif kind == "ask":
                            told.append(one.ask(chance.choice(ASKED), k=4, dark=chance.choice((True, False))))
                        elif kind == "fall":
                            told.append(one.fall(shard, seat, undone=chance.randrange(3)))
                        elif kind == "pour":
                            told.append(one.pour(shard, seat, chance.randrange(2)))
                        else:
                            told.append(getattr(one, kind)(shard, seat))
                    except AsIfError as error:
                        told.append((type(error), vars(error)))
                self.assertEqual(told[0], told[1], kind)
            self.assertEqual(other.log(), house.log())

    def test_no_log_of_anything(self):
        for thing in NO_TEXTS + DEEP + ["", "begun", {0: BEGUN}, {BEGUN}, iter([BEGUN]), BEGUN, [], ()]:
            self.refused(thing, 0)

    def test_the_first_row_that_is_none(self):
        for thing in NO_TEXTS + DEEP + ["", "tick", ("rise",), ("seal", 0), ["seal", 0, 0], ("x", 0, 0), BEGUN, Strange()]:
            self.refused([BEGUN, thing], 1)
            self.refused([BEGUN, TICK, thing, thing], 2)
            self.refused([thing if thing != BEGUN else TICK, TICK], 0)
            self.refused([BEGUN, TICK, ("tick", thing if thing != () else 1)], 2)
            self.refused([BEGUN, TICK, ("tick", ((thing, ("gone",)),))], 2)
            self.refused([BEGUN, TICK, ("tick", (("b/", thing),))], 2)
            if thing != "tick":
                self.refused([BEGUN, TICK, ("ask", thing, 5, False, (), (), ())], 2)
                self.refused([BEGUN, TICK, ("strike", thing)], 2)

    def test_what_the_house_refuses(self):
        for row in [
            ("rise", 0, 0), ("on_time", 0, 0), ("late", 0, 3), ("late", 2, 0), ("fall", 0, 0, 1), ("fall", 0, 0, 2), ("fall", 0, 0, 3),
            ("fall", 0, True, 0), ("pour", 0, 0, 0), ("seal", 0, 9), ("trim", True, 0), ("strike", ""), ("free", "a"),
            ("ask", "(", 5, True, (), (), ()), ("ask", "cat", 11, True, (), (), ()), ("ask", "cat", True, True, (), (), ()),
        ]:
            self.refused([BEGUN, TICK, row], 2)
        self.refused([BEGUN[:2] + (5,) + BEGUN[3:]], 0)
        self.refused([BEGUN[:1] + (["a/"],) + BEGUN[2:]], 0)
        self.refused([BEGUN[:1] + ((),) + BEGUN[2:]], 0)
        self.refused([BEGUN[:3] + (True,) + BEGUN[4:]], 0)

    def test_what_its_own_log_tells_otherwise(self):
        self.refused([BEGUN, ("tick", ())], 1)
        self.refused([BEGUN, ("tick", TICK[1] * 2)], 1)
        self.refused([BEGUN, ("tick", (("b/", ("gone",)),))], 1)
        self.refused([BEGUN, ("tick", list(TICK[1]))], 1)
        self.refused([BEGUN, ("ask", "cat", 5, 0, (), (), ())], 1)
        self.refused([BEGUN, ("ask", "cat", 5, 1, (), (), ())], 1)
        self.refused([BEGUN, ("ask", "cat", 5, False, [], (), ())], 1)
        self.refused([BEGUN, ("ask", "cat", 5, False, (), {}, ())], 1)
        self.refused([BEGUN, ("ask", "cat", 5, False, (), (), (0,))], 1)
        self.refused([BEGUN, TICK, ("ask", "cat", 5, False, (), (), ())], 2)
        self.assertEqual(again([BEGUN, ("ask", "cat", 5, False, (), (), ())]).deeds(), (1, 1))

    def test_logs_of_chance_with_something_otherwise(self):
        chance = random.Random(136)
        many = {True: 0, False: 0}
        for _ in range(20):
            log = some_log(chance, 40).log()
            self.assertEqual(again(log).log(), log)
            for _ in range(20):
                at = chance.randrange(len(log))
                other = list(log)
                other[at] = otherwise(chance, log[at])
                if chance.randrange(6) == 0:
                    other = log[:at] + log[at + 1:] if chance.randrange(2) else log[:at] + [log[at]] + log[at:]
                wanted = plainly_judged(other, PlainHouse)
                many[wanted is None] += 1
                try:
                    told = again(other).log()
                except NoLog as error:
                    told = error.at
                self.assertEqual(told, other if wanted is None else wanted, (other[at:at + 1], log[at]))
        self.assertGreater(many[True], 5)
        self.assertGreater(many[False], 200)


class LaxHouseTest(unittest.TestCase):
    """The judge of these tests refuses what it should."""

    def test_refusals(self):
        lax = LaxHouse(["a/"])
        lax.at_seat("pour", 0, 0, 7)
        lax.at_seat("fall", 0, 0, undone=2)
        for arguments in [("seal", 0, 0), ("pour", 0, 1, -1), ("trim", 2, 0), ("seal", True, 1)]:
            with self.assertRaises(NoSeat):
                lax.at_seat(*arguments)
        with self.assertRaises(NoFall):
            lax.at_seat("fall", 0, 1, undone=3)
        with self.assertRaises(NoShard):
            lax.at_seat("late", 2, 0)
        self.assertEqual(world_of(TABLE)[0]("zz/", 1), ("gone",))
