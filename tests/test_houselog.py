"""Of point [23] what house.log() tells."""

import random
import unittest

from asifread.errors import AsIfError
from asifread.house import House
from houses import ADDRESSES, PlainHouse, World, some_deed
from test_crawling import Lost, world_of
from test_house import TABLE


def kinds(thing):
    """The kinds of all that stands in a thing."""
    if isinstance(thing, (tuple, list)):
        return {type(thing)}.union(*map(kinds, thing))
    return {type(thing)}


class HouseLogTest(unittest.TestCase):
    def setUp(self):
        self.house = House(["a/"])

    def last(self):
        return self.house.log()[-1]

    def test_begun(self):
        self.assertEqual(self.house.log(), [("begun", ("a/",), 2, 3, 2, 2, 24)])
        house = House(["b/", "a/"], most=9, lanes=4, gap=3, seats=5, shards=1)
        self.assertEqual(house.log(), [("begun", ("b/", "a/"), 1, 5, 3, 4, 9)])
        self.assertIsInstance(house.log(), list)

    def test_ticks(self):
        house = self.house
        house.tick(world_of(TABLE)[0])
        self.assertEqual(self.last(), ("tick", (("a/", TABLE["a/"]),)))
        house.tick(lambda address, tick: ("moved", "./x") if address == "b/" else ("silent",))
        self.assertEqual(self.last(), ("tick", (("b/", ("moved", "./x")),)))
        house.tick(lambda address, tick: ("gone",))
        self.assertEqual(self.last(), ("tick", (("a/x", ("gone",)),)))
        house.tick(lambda address, tick: ("silent",))
        self.assertEqual(self.last(), ("tick", (("b/x", ("silent",)),)))
        self.assertEqual(len(house.log()), 5)

    def test_a_tick_without_looks(self):
        self.house.tick(lambda address, tick: ("gone",))
        self.assertEqual(self.house.tick(lambda address, tick: ("gone",)), [])
        self.assertEqual(self.last(), ("tick", ()))

    def test_deeds_of_seats(self):
        house = self.house
        for _ in range(4):
            house.tick(world_of(TABLE)[0])
            house.seal(1, 0)
        self.assertEqual(self.last(), ("seal", 1, 0))
        house.pour(1, 0, 0)
        self.assertEqual(self.last(), ("pour", 1, 0, 0))
        house.fall(1, 0, undone=2)
        self.assertEqual(self.last(), ("fall", 1, 0, 2))
        house.fall(seat=2, shard=0)
        self.assertEqual(self.last(), ("fall", 0, 2, 0))
        house.rise(1, 0)
        self.assertEqual(self.last(), ("rise", 1, 0))
        house.late(0, 2)
        self.assertEqual(self.last(), ("late", 0, 2))
        house.on_time(0, 2)
        self.assertEqual(self.last(), ("on_time", 0, 2))
        house.trim(1, 1)
        self.assertEqual(self.last(), ("trim", 1, 1))
        house.seal(1, 0)
        house.seal(1, 0)
        # One that did nothing is a row, too.
        self.assertEqual(house.log()[-2:], [("seal", 1, 0)] * 2)

    def test_prefixes(self):
        self.house.strike(prefix="a/")
        self.house.strike("b")
        self.house.free("a/")
        self.assertEqual(self.house.log()[1:], [("strike", "a/"), ("strike", "b"), ("free", "a/")])

    def test_asks(self):
        house = self.house
        house.ask("cat")
        self.assertEqual(self.last(), ("ask", "cat", 5, False, (), (), ()))
        for _ in range(3):
            house.tick(world_of(TABLE)[0])
        hits, words, left_out = house.ask(" cats | dgo | zzz ", dark=True, k=2)
        told = tuple((address, worth, tuple(rows), tick, place) for address, worth, rows, tick, place in hits)
        self.assertEqual(len(told), 2)
        self.assertEqual(self.last(), ("ask", " cats | dgo | zzz ", 2, True, told, (("dgo", "dog"),), ()))
        for seat in range(3):
            house.fall(1, seat)
        house.ask("dog", dark=True, k=1)
        self.assertEqual(self.last()[:4] + self.last()[5:], ("ask", "dog", 1, True, (), (1,)))
        self.assertEqual(self.last()[4][0][0], "b/")
        self.assertEqual(len(house.log()), 10)

    def test_answers_that_are_changed_behind_stay_in_the_log(self):
        house = self.house
        looks = house.tick(world_of(TABLE)[0])
        wanted = house.log()
        looks.clear()
        hits, words, _ = house.ask("cat | zat")
        row = self.last()
        hits[0][2].clear()
        hits.clear()
        words["zat"] = "dog"
        self.assertEqual(house.log(), wanted + [row])
        self.assertEqual(len(row[4]), 1)
        self.assertEqual(row[5], (("zat", "cat"),))

    def test_no_row_of_what_is_refused_or_raised(self):
        house = self.house
        house.tick(world_of(TABLE)[0])
        before = house.log()

        def lost(address, tick):
            raise Lost()

        with self.assertRaises(Lost):
            house.tick(lost)
        self.assertEqual(house.log(), before)
        for deed in [
            lambda: house.fall(9, 0), lambda: house.fall(0, 9), lambda: house.fall(0, 0, undone=1), lambda: house.rise(0, 0),
            lambda: house.on_time(0, 0), lambda: house.seal(0, 9), lambda: house.trim(9, 0), lambda: house.pour(0, 0, 5),
            lambda: house.strike(""), lambda: house.free("a"), lambda: house.ask(""), lambda: house.ask("cat", k=0), lambda: house.ask(None),
        ]:
            with self.assertRaises(AsIfError):
                deed()
        self.assertEqual(house.log(), before)
        for shard in range(2):
            for seat in range(3):
                house.fall(shard, seat)
        before = house.log()
        with self.assertRaises(AsIfError):
            house.ask("cat")
        self.assertEqual(house.log(), before)
        self.assertEqual(house.deeds(), (22, 22))

    def test_what_it_told_before_stays(self):
        house = self.house
        told = house.log()
        house.tick(world_of(TABLE)[0])
        self.assertEqual(len(told), 1)
        told.append("x")
        self.assertEqual(len(house.log()), 2)

    def test_tuples_within_of_a_world_that_tells_lists(self):
        answers = {"a/": ["page", "cat [x](b/)"], "b/": ["moved", "c/"], "c/": ["gone"]}
        for _ in range(5):
            self.house.tick(lambda address, tick: answers.get(address, ["silent"]))
        wanted = [
            ("tick", (("a/", ("page", "cat [x](b/)")),)), ("tick", (("b/", ("moved", "c/")),)),
            ("tick", (("c/", ("gone",)), ("a/", ("page", "cat [x](b/)")))), ("tick", (("b/", ("moved", "c/")),)),
        ]
        self.assertEqual(self.house.log()[1:5], wanted)
        for answer in answers.values():
            answer.clear()
        self.assertEqual(self.house.log()[1:5], wanted)

    def test_tuples_within_of_deeds_of_chance(self):
        chance = random.Random(121)
        for _ in range(10):
            house, plain = House(ADDRESSES[:3]), PlainHouse(ADDRESSES[:3])
            world = World(chance)
            rows = 1
            for _ in range(60):
                before = house.log()
                kind = some_deed(chance, house, plain, world)
                log = house.log()
                rows += 0 if kind.endswith("refused") else 1
                self.assertEqual((log[:len(before)], len(log)), (before, rows))
                self.assertLessEqual(kinds(log[-1]), {tuple, str, int, bool})
            self.assertEqual(house.log(), plain.log)
