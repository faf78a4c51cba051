"""Point [22]: the house; of point [2], (a) to (e) of a house as a whole."""

import collections
import copy
import random
import unittest

from asifread.errors import (
    BadAddress, BadCount, NoFall, NoPart, NoPrefix, NoSeat, NoShard, NoText, NotSure,
)
from asifread.house import House, home
from asifread.pages import parsed
from asifread.places import placed, stands
from asifread.plain import best, weight
from houses import ADDRESSES, ASKED, NO_QUESTION_TEXTS, PREFIXES, PlainHouse, World, all_told, some_deed
from others import DEEP, NO_TEXTS, Strange
from test_addresses import NO_ADDRESSES
from test_crawling import Lost, world_of
from test_disk import NO_NUMBERS
from test_frontier import MANY, NO_COUNTS

NO_INDICES = [thing for thing in NO_NUMBERS + DEEP + NO_TEXTS if not isinstance(thing, int) or isinstance(thing, bool)]
TABLE = {
    "a/": ("page", "# Black cats\nA cat sat. [x](b/) [x](a/x)"), "b/": ("page", "A dog, a cat. [x](a/) [x](c/)"),
    "a/x": ("page", "A bird. [x](./y)"), "c/": ("page", "!hide\ncats [x](a/)"), "a/y": ("moved", "d/"), "d/": ("page", "mice"),
}


def filled(ticks=12, seeds=("a/",), table=TABLE, **numbers):
    """A House that looked at what stands in the table."""
    house = House(seeds, **numbers)
    for _ in range(ticks):
        house.tick(world_of(table)[0])
    return house


class BeginTest(unittest.TestCase):
    def test_at_first(self):
        house = House(["b/", "a/"])
        self.assertEqual(all_told(house), (
            [], 0, [], [("a/", None), ("b/", None)], [0, 0], (0, 0), [("begun", ("b/", "a/"), 2, 3, 2, 2, 24)],
        ))
        self.assertEqual(house.ask("cat"), ([], {}, ()))

    def test_numbers(self):
        for shards in range(1, 5):
            for seats in range(1, 6):
                house = House(("a/",), seats=seats, shards=shards)
                self.assertEqual(house.sure(), [0] * shards)
                house.fall(shards - 1, seats - 1)
                with self.assertRaises(NoSeat):
                    house.fall(shards - 1, seats)
                with self.assertRaises(NoShard):
                    house.fall(shards, 0)
        house = House(seeds=["a/"], most=30, lanes=4, gap=3)
        self.assertEqual(house.log(), [("begun", ("a/",), 2, 3, 3, 4, 30)])

    def test_bad_counts(self):
        for name, greatest in [("shards", 4), ("seats", 5), ("gap", 9), ("lanes", 9), ("most", 60)]:
            for thing in NO_COUNTS + [greatest + 1, greatest + 2, Strange()]:
                for seeds in (["a/"], [], None):
                    with self.assertRaises(BadCount):
                        House(seeds, **{name: thing})
        with self.assertRaises(TypeError):
            House(["a/"], 2)

    def test_bad_addresses(self):
        for thing in NO_ADDRESSES + NO_TEXTS + DEEP:
            for seeds in (thing, [thing], ("a/", thing)):
                if seeds in (["a/"], ("a/",)):
                    continue
                with self.assertRaises(BadAddress):
                    House(seeds)
        for seeds in ([], ["a/", "a/"], MANY[:25]):
            with self.assertRaises(BadAddress):
                House(seeds)
        House(MANY[:25], most=25)

    def test_seeds_may_be_changed_behind(self):
        seeds = ["a/", "b/"]
        house = House(seeds)
        seeds.clear()
        self.assertEqual((list(house.known()), house.log()[0][1]), (["a/", "b/"], ("a/", "b/")))


class HomeTest(unittest.TestCase):
    def test_by_hand(self):
        for address, shards, wanted in [
            ("a/", 2, 1), ("a/", 1, 0), ("a/", 3, 1), ("a/", 4, 1), ("b/", 2, 0), ("b/x/y/z", 2, 0), ("ab/", 4, 3), ("ab/", 2, 1),
            ("z9/x", 4, (122 + 57) % 4), ("0/", 4, 0), ("abcdefgh/", 3, sum(range(97, 105)) % 3),
        ]:
            self.assertEqual(home(address, shards), wanted)
            self.assertEqual(home(shards=shards, address=address), wanted)

    def test_no_addresses(self):
        for thing in NO_ADDRESSES + NO_TEXTS:
            with self.assertRaises(BadAddress):
                home(thing, 2)


class TickTest(unittest.TestCase):
    def test_from_1_on(self):
        house = House(["a/"], gap=1)
        world, asked = world_of(TABLE)
        self.assertEqual(house.tick(world), [("a/", TABLE["a/"])])
        self.assertEqual(house.now(), 1)
        self.assertEqual(house.tick(world=world), [("a/x", TABLE["a/x"]), ("b/", TABLE["b/"])])
        self.assertEqual((house.now(), asked), (2, [("a/", 1), ("a/x", 2), ("b/", 2)]))
        self.assertEqual(house.known(), {"a/": 1, "a/x": 2, "a/y": None, "b/": 2, "c/": None})
        self.assertEqual(house.held(), {"a/": (TABLE["a/"][1], 1), "a/x": (TABLE["a/x"][1], 2), "b/": (TABLE["b/"][1], 2)})
        self.assertEqual(house.sure(), [1, 2])

    def test_nothing_to_look_at(self):
        house = House(["a/"])
        world, asked = world_of({})
        self.assertEqual([house.tick(world) for _ in range(3)], [[("a/", ("gone",))], [], [("a/", ("gone",))]])
        self.assertEqual((house.now(), asked), (3, [("a/", 1), ("a/", 3)]))

    def test_gone_moved_and_silent_pages(self):
        for answer, held in [(("gone",), []), (("moved", "a/"), []), (("silent",), ["a/"]), (("page", ""), ["a/"])]:
            house = House(["a/"], gap=1)
            house.tick(lambda address, tick: ("page", "cat"))
            house.tick(lambda address, tick: answer)
            self.assertEqual(list(house.held()), held)
            self.assertEqual(house.held().get("a/"), {"silent": ("cat", 1), "page": ("", 2)}.get(answer[0]))

    def test_entries_go_home(self):
        houses = [f"{sign}/" for sign in "abcdefgh"]
        for shards in range(1, 5):
            house = House(houses, shards=shards, lanes=8)
            house.tick(lambda address, tick: ("page", "cat"))
            self.assertEqual(house.sure(), [sum(home(one, shards) == at for one in houses) for at in range(shards)])

    def test_a_world_that_raises_at_each_place(self):
        for fails in range(3):
            for error in (Lost(), StopIteration(), KeyboardInterrupt(), NotSure(0)):
                house = House(["a/", "b/", "c/"], gap=1, lanes=3)
                for _ in range(3):
                    house.tick(world_of(TABLE)[0])
                before, deeds = all_told(house), house.deeds()
                asked = []

                def world(address, tick):
                    if len(asked) == fails:
                        raise error
                    asked.append(address)
                    return ("page", "dog [x](e/)")

                with self.assertRaises(type(error)) as caught:
                    house.tick(world)
                self.assertIs(caught.exception, error)
                self.assertEqual(house.deeds(), (deeds[0] + 1, deeds[1] + 1))
                self.assertEqual(all_told(house)[:5] + all_told(house)[6:], before[:5] + before[6:])
                told = house.tick(world_of(TABLE)[0])
                self.assertEqual((house.now(), len(told)), (4, 3))

    def test_what_is_told_is_the_askers_own(self):
        house = filled(5)
        before = all_told(house)
        for told in (house.tick(lambda address, tick: ("silent",)),):
            told.clear()
        for told in (house.held(), house.struck(), house.known(), house.sure(), house.log()):
            told.clear()
        after = all_told(house)
        self.assertEqual((after[0], after[2], after[4]), (before[0], before[2], before[4]))
        self.assertEqual(len(after[6]), len(before[6]) + 1)


class SeatsTest(unittest.TestCase):
    def setUp(self):
        self.house = filled(4)

    def refused(self, kind, method, *arguments, **by_name):
        before = all_told(self.house)
        with self.assertRaises(kind) as caught:
            getattr(self.house, method)(*arguments, **by_name)
        after = all_told(self.house)
        self.assertEqual(after[:5] + after[6:], before[:5] + before[6:])
        self.assertEqual(after[5], (before[5][0] + 1,) * 2)
        return caught.exception

    def test_as_the_shards(self):
        house = self.house
        many = house.sure()[1]
        self.assertEqual(house.seal(1, 0), many)
        self.assertEqual(house.seal(seat=0, shard=1), 0)
        self.assertIsNone(house.fall(1, 0, undone=2))
        self.assertIsNone(house.rise(1, 0))
        self.assertEqual(house.seal(1, 0), many)
        self.assertIsNone(house.late(shard=1, seat=0))
        self.assertIsNone(house.on_time(1, 0))
        self.assertIsNone(house.trim(1, 0))
        self.refused(NoFall, "fall", 1, 0, undone=1)
        self.refused(NoPart, "pour", 1, 0, 0)
        house.tick(world_of(TABLE)[0])
        self.assertEqual(house.seal(1, 0), house.sure()[1] - many)
        self.assertIsNone(house.pour(1, at=0, seat=0))
        self.refused(NoPart, "pour", 1, 0, 0)
        self.assertIsNone(house.fall(1, 0))
        self.refused(NoSeat, "fall", 1, 0)

    def test_no_shard_ahead_of_all_else(self):
        for thing in NO_INDICES + [-1, 2, 3, 10 ** 100, -10 ** 100, Strange()]:
            for seat in (0, 9, None):
                for method in ("fall", "rise", "late", "on_time", "seal", "trim"):
                    self.refused(NoShard, method, thing, seat)
                self.refused(NoShard, "pour", thing, seat, None)
                self.refused(NoShard, "fall", thing, seat, undone=None)

    def test_no_seat_of_anything(self):
        for thing in NO_INDICES + [-1, 3, 10 ** 100]:
            for method in ("fall", "rise", "late", "on_time", "seal", "trim"):
                self.refused(NoSeat, method, 0, thing)
            self.refused(NoSeat, "pour", 0, thing, None)
            self.refused(NoSeat, "fall", 1, thing, undone=None)

    def test_no_part_and_no_fall_of_anything(self):
        for thing in NO_INDICES + [-1, 3, 10 ** 100]:
            self.refused(NoPart, "pour", 0, 0, thing)
            self.refused(NoFall, "fall", 0, 0, undone=thing)
        with self.assertRaises(TypeError):
            self.house.fall(0, 0, 1)

    def test_no_seat_of_what_is_so_already(self):
        self.refused(NoSeat, "rise", 0, 0)
        self.refused(NoSeat, "on_time", 0, 0)
        self.house.late(0, 0)
        self.refused(NoSeat, "late", 0, 0)
        self.house.fall(0, 0)
        for method in ("fall", "seal", "trim"):
            self.refused(NoSeat, method, 0, 0)
        self.refused(NoSeat, "pour", 0, 0, 0)


class PrefixesTest(unittest.TestCase):
    def setUp(self):
        self.house = filled()

    def refused(self, method, thing):
        before = all_told(self.house)
        with self.assertRaises(NoPrefix):
            getattr(self.house, method)(thing)
        after = all_told(self.house)
        self.assertEqual(after[:5] + after[6:], before[:5] + before[6:])
        self.assertEqual(after[5], (before[5][0] + 1,) * 2)

    def test_strike_and_free(self):
        house = self.house
        self.assertIsNone(house.strike("a/x"))
        self.assertIsNone(house.strike(prefix="b"))
        self.assertIsNone(house.strike("a"))
        self.assertEqual(house.struck(), ["a/x", "b", "a"])
        self.assertIsNone(house.free("b"))
        self.assertEqual(house.struck(), ["a/x", "a"])
        house.strike("b")
        self.assertEqual(house.struck(), ["a/x", "a", "b"])
        self.assertIsNone(house.free(prefix="a/x"))
        self.assertEqual(house.struck(), ["a", "b"])

    def test_prefixes(self):
        for prefix in ["a", "/", " ", "A b!", "x" * 35, "\n", "none"]:
            self.house.strike(prefix)
            self.refused("strike", prefix)
            self.house.free(prefix)
            self.refused("free", prefix)

    def test_no_prefixes(self):
        for thing in NO_TEXTS + DEEP + ["", "x" * 36, "x" * 3000, Strange()]:
            self.refused("strike", thing)
            self.refused("free", thing)
        self.house.strike("a")
        for thing in NO_TEXTS + DEEP + ["", "b", "A", "a/", ["a"], Strange()]:
            self.refused("free", thing)

    def test_struck_pages_are_not_shown_nor_counted(self):
        house = self.house
        self.assertEqual([hit[0] for hit in house.ask("cat")[0]], ["a/", "b/"])
        house.strike("a/")
        hits, words, left_out = house.ask("cat bird")
        self.assertEqual((hits, words), ([], {}))
        self.assertEqual(house.ask("bird"), ([], {}, ()))
        hits = house.ask("cat")[0]
        self.assertEqual([hit[0] for hit in hits], ["b/"])
        # The struck a/ leads there no more, and of two shown pages one has the word.
        self.assertEqual(hits[0][2], [("cat", 1, 0, 6, 46), ("links", 0)])
        self.assertIn("a/", house.held())
        house.free("a/")
        self.assertEqual([hit[0] for hit in house.ask("cat")[0]], ["a/", "b/"])


class AskTest(unittest.TestCase):
    def setUp(self):
        self.house = filled()

    def refused(self, kind, *arguments, **by_name):
        before = all_told(self.house)
        with self.assertRaises(kind) as caught:
            self.house.ask(*arguments, **by_name)
        after = all_told(self.house)
        self.assertEqual(after[:5] + after[6:], before[:5] + before[6:])
        self.assertEqual(after[5], (before[5][0] + 1,) * 2)
        return caught.exception

    def test_hits(self):
        hits, words, left_out = self.house.ask("cats")
        held = self.house.held()
        self.assertEqual([hit[0] for hit in hits], ["a/", "b/"])
        book = {address: text for address, (text, tick) in held.items()}
        self.assertEqual([hit[:3] for hit in hits], best(book, ("word", "cat"), 5))
        self.assertEqual([hit[3] for hit in hits], [held[hit[0]][1] for hit in hits])
        self.assertEqual(hits[0][4], ("..cat..", ((2, 5),)))
        self.assertEqual(hits[1][4], ("..cat..", ((2, 5),)))
        self.assertEqual((words, left_out), ({}, ()))
        for address, worth, rows, tick, place in hits:
            self.assertEqual(worth, sum(map(weight, rows)))
            self.assertTrue(stands(parsed(book[address]), ["cat"], place))

    def test_kinds(self):
        hits, words, left_out = told = self.house.ask("cat")
        self.assertEqual([type(thing) for thing in (told, hits, words, left_out)], [tuple, list, dict, tuple])
        self.assertEqual([type(thing) for thing in (hits[0],) + hits[0]], [tuple, str, int, list, int, tuple])

    def test_by_name_and_default(self):
        house = filled(seeds=[f"a{at}/" for at in range(8)], table={f"a{at}/": ("page", "cat") for at in range(8)})
        self.assertEqual(len(house.ask("cat")[0]), 5)
        for k in range(1, 11):
            self.assertEqual(len(house.ask(dark=False, k=k, text="cat")[0]), min(k, 8))
        with self.assertRaises(TypeError):
            house.ask("cat", 5)

    def test_words_that_stand_nowhere(self):
        self.assertEqual(self.house.ask("cta")[1], {"cta": "cat"})
        self.assertEqual(self.house.ask("dg brid | cats | zzz")[1], {"dg": "dog", "brid": "bird"})
        self.assertEqual(list(self.house.ask("brid | dg")[1]), ["brid", "dg"])
        self.assertEqual(self.house.ask("-cta")[1], {})
        self.assertEqual(self.house.ask("zzzz")[1], {})
        self.assertEqual(self.house.ask("title:blakc")[1], {"blakc": "black"})
        # What stands in a hidden page alone stands nowhere.
        house = filled(table={"a/": ("page", "!hide\ncart [x](b/)"), "b/": ("page", "cat cut")})
        self.assertEqual(house.ask("cart")[1], {"cart": "cat"})
        house.strike("b")
        self.assertEqual(house.ask("cart")[1], {})

    def test_nearest_by_the_counts_of_all_shards(self):
        table = {"a/": ("page", "cut [x](b/) [x](c/) [x](d/)"), "b/": ("page", "cot"), "c/": ("page", "x"), "d/": ("page", "cot")}
        house = filled(table=table)
        self.assertEqual(house.ask("cat")[1], {"cat": "cot"})
        house.strike("b")
        self.assertEqual(house.ask("cat")[1], {"cat": "cot"})
        house.free("b")
        for seat in range(3):
            house.fall(0, seat)
        self.assertEqual(house.ask("cat", dark=True), ([], {"cat": "cut"}, (0,)))

    def test_refused_in_the_told_order(self):
        for dark in (False, True):
            for text in NO_QUESTION_TEXTS + NO_TEXTS + DEEP:
                for k in (5, 0, None):
                    self.assertEqual(self.refused(NoText, text, k=k, dark=dark).row, 0)
            for k in NO_INDICES + [0, 11, -1, 10 ** 100]:
                self.refused(BadCount, "cat", k=k, dark=dark)
            for seat in range(3):
                if not dark:
                    self.house.fall(1, seat)

    def test_not_sure(self):
        house = self.house
        for seat in range(3):
            house.fall(1, seat)
        self.assertEqual(self.refused(NotSure, "cat").shard, 1)
        self.assertEqual(self.refused(NotSure, "cat", dark=False).shard, 1)
        hits, words, left_out = house.ask("cat", dark=True)
        self.assertEqual(([hit[0] for hit in hits], words, left_out), (["b/"], {}, (1,)))
        self.assertEqual(hits[0][2], [("cat", 1, 0, 6, 46), ("links", 0)])
        for seat in range(3):
            house.fall(0, seat)
        self.assertEqual(self.refused(NotSure, "cat").shard, 0)
        self.assertEqual(house.ask("cat", dark=True), ([], {}, (0, 1)))
        house.rise(1, 2)
        self.assertEqual(house.ask("cat", dark=True)[2], (0,))
        self.assertEqual([hit[0] for hit in house.ask("cat", dark=True)[0]], ["a/"])
        house.rise(0, 0)
        self.assertEqual([hit[0] for hit in house.ask("cat")[0]], ["a/", "b/"])

    def test_held_whatever_seats_are_up(self):
        held = self.house.held()
        for shard in range(2):
            for seat in range(3):
                self.house.fall(shard, seat)
        self.assertEqual(list(self.house.held().items()), list(held.items()))
        self.assertEqual(list(held), ["a/", "a/x", "b/", "c/", "d/"])

    def test_only_what_is_surely_held(self):
        house = House(["a/"], gap=1, shards=1)
        house.tick(lambda address, tick: ("page", "cat"))
        house.late(0, 0)
        house.late(0, 1)
        house.tick(lambda address, tick: ("page", "dog"))
        self.assertEqual((house.sure(), house.held()), ([1], {"a/": ("cat", 1)}))
        self.assertEqual([hit[0::3] for hit in house.ask("cat")[0]], [("a/", 1)])
        self.assertEqual(house.ask("dog")[0], [])
        house.on_time(0, 1)
        self.assertEqual((house.sure(), house.held()), ([2], {"a/": ("dog", 2)}))
        self.assertEqual(house.ask("cat")[0], [])
        self.assertEqual([hit[0::3] for hit in house.ask("dog")[0]], [("a/", 2)])

    def test_seals_pours_and_trims_change_no_answer(self):
        house, plain = filled(8), filled(8)
        for turn in range(6):
            for shard in range(2):
                for seat in range(3):
                    if (turn + seat) % 2:
                        house.seal(shard, seat)
                    if turn % 3 == seat:
                        house.trim(shard, seat)
                    if turn in (3, 5) and seat:
                        house.pour(shard, seat, 0)
            for one in (house, plain):
                one.tick(world_of(TABLE)[0])
                one.tick(world_of({**TABLE, "a/": ("page", f"cat {turn}")})[0])
            for text in ASKED:
                self.assertEqual(house.ask(text), plain.ask(text))
            self.assertEqual((house.held(), house.sure(), house.known()), (plain.held(), plain.sure(), plain.known()))

    def test_answers_are_the_askers_own(self):
        wanted = copy.deepcopy(self.house.ask("cat | zat"))
        hits, words, _ = self.house.ask("cat | zat")
        hits[0][2].clear()
        hits.clear()
        words.clear()
        self.assertEqual(self.house.ask("cat | zat"), wanted)


class ChanceTest(unittest.TestCase):
    """Deeds of chance at a House and at a plain one that goes through all pages held."""

    def test_deeds_of_chance(self):
        chance = random.Random(111)
        many = collections.Counter()
        for _ in range(60):
            shards, seats = chance.randrange(1, 5), chance.randrange(1, 6)
            numbers = {"gap": chance.randrange(1, 4), "lanes": chance.randrange(1, 5), "most": chance.randrange(4, 25)}
            seeds = chance.sample(ADDRESSES, chance.randrange(1, 4))
            house = House(seeds, shards=shards, seats=seats, **numbers)
            plain = PlainHouse(seeds, shards, seats, **numbers)
            world = World(chance)
            for _ in range(120):
                many[some_deed(chance, house, plain, world)] += 1
                if chance.randrange(4) == 0:
                    self.assertEqual(all_told(house), plain.all_told())
            self.assertEqual(all_told(house), plain.all_told())
        for kind in "tick ask fall rise late on_time seal trim pour strike free".split():
            self.assertGreater(many[kind], 20, kind)
            if kind not in ("tick",):
                self.assertGreater(many[kind + " refused"], 2, kind)

    def test_what_is_surely_held_stays(self):
        chance = random.Random(112)
        for _ in range(15):
            house = House(ADDRESSES[:4], shards=2, seats=chance.randrange(1, 6))
            plain = PlainHouse(ADDRESSES[:4], 2, house.log()[0][3])
            world = World(chance)
            held = {}
            for _ in range(70):
                some_deed(chance, house, plain, world)
                now = house.held()
                for address in held:
                    if now.get(address) != held[address]:
                        # It was looked at anew.
                        self.assertGreater(house.known()[address], held[address][1])
                        self.assertGreater(now.get(address, ("", house.now() + 1))[1], held[address][1])
                held = now
                for prefix in house.struck():
                    for hit in house.ask("-zzz", k=10, dark=True)[0]:
                        self.assertFalse(hit[0].startswith(prefix))
                        plain.done += 1
                plain.done = house.deeds()[0]

    def test_each_address_is_looked_at_within_the_bound(self):
        chance = random.Random(113)
        for _ in range(10):
            gap, lanes, most = chance.randrange(1, 4), chance.randrange(1, 4), chance.randrange(2, 12)
            house = House(["a/", "b/x"], gap=gap, lanes=lanes, most=most)
            world = World(chance)
            bound = gap * most + (most - 1) // lanes
            first, by_house = {"a/": 0, "b/x": 0}, {}
            for _ in range(3 * bound):
                for address, _ in house.tick(world):
                    name = address.split("/")[0]
                    self.assertLessEqual(by_house.get(name, -9), house.now() - gap)
                    by_house[name] = house.now()
                for address, last in house.known().items():
                    since = first.setdefault(address, house.now()) if last is None else last
                    self.assertLess(house.now() - since, bound)
