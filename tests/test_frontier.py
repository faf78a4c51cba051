"""Point [20]: frontiers; of point [2](d), that each known address is looked at within the bound, no house too often."""

import random
import unittest

from asifread.errors import BadAddress, BadCount, NotKnown
from asifread.frontier import Frontier
from others import DEEP, NO_TEXTS, Strange
from test_addresses import ADDRESSES, NO_ADDRESSES
from test_disk import NO_NUMBERS

NO_COUNTS = [thing for thing in NO_NUMBERS + DEEP + NO_TEXTS if not isinstance(thing, int) or isinstance(thing, bool)]
NO_COUNTS += [0, -1, -10 ** 100, 10 ** 100]
MANY = [f"{house}/{name}" for house in "abcdefgh" for name in ["", "a", "b", "c", "d", "e", "f", "g"]]


def plain_picks(known, gap, lanes, tick):
    """What is to be picked, reckoned another way: one after the other, each the best of those that may be."""
    found = []
    while len(found) < lanes:
        houses = {address.split("/")[0] for address in found}
        houses |= {address.split("/")[0] for address, last in known.items() if last is not None and not last <= tick - gap}
        left = [address for address in known if address.split("/")[0] not in houses]
        if not left:
            break
        found.append(min(left, key=lambda address: (known[address] is not None, known[address] or 0, address)))
    return found


class FrontierTest(unittest.TestCase):
    def refused(self, kind, frontier, *arguments):
        before = list(frontier.known().items())
        with self.assertRaises(kind):
            frontier.looked(*arguments)
        self.assertEqual(list(frontier.known().items()), before)

    def test_known_at_first(self):
        self.assertEqual(list(Frontier(["b/", "a/x", "a/"]).known().items()), [("a/", None), ("a/x", None), ("b/", None)])
        self.assertEqual(Frontier(seeds=("a/",)).known(), {"a/": None})
        self.assertEqual(len(Frontier(MANY[:24]).known()), 24)
        self.assertEqual(len(Frontier(MANY[:60], most=60).known()), 60)
        self.assertEqual(list(Frontier(ADDRESSES).known()), sorted(ADDRESSES))

    def test_bound(self):
        self.assertEqual(Frontier(["a/"]).bound(), 2 * 24 + 11)
        self.assertEqual(Frontier(["a/"], gap=1, lanes=1, most=1).bound(), 1)
        self.assertEqual(Frontier(["a/"], gap=3, lanes=4, most=10).bound(), 32)
        self.assertEqual(Frontier(["a/"], gap=3, lanes=4, most=9).bound(), 29)
        self.assertEqual(Frontier(["a/"], gap=9, lanes=9, most=60).bound(), 546)
        self.assertEqual(Frontier(["a/"], gap=9, lanes=1, most=60).bound(), 599)

    def test_counts(self):
        for count in range(1, 10):
            Frontier(["a/"], gap=count, lanes=10 - count)
        for most in range(1, 61):
            Frontier(["a/"], most=most)
        for name, greatest in [("gap", 9), ("lanes", 9), ("most", 60)]:
            for thing in NO_COUNTS + [greatest + 1, greatest + 2, Strange()]:
                for seeds in (["a/"], [], None):
                    with self.assertRaises(BadCount):
                        Frontier(seeds, **{name: thing})
        with self.assertRaises(TypeError):
            Frontier(["a/"], 2)

    def test_seeds(self):
        for thing in NO_TEXTS + DEEP + ["", "a/", {"a/": 1}, {"a/"}, iter(["a/"]), [], ()]:
            if thing != ("a/",) and thing != ["a/"]:
                with self.assertRaises(BadAddress):
                    Frontier(thing)
        for thing in NO_ADDRESSES + NO_TEXTS:
            for seeds in ([thing], (thing,), ["a/", thing], [thing, "a/"], ["a/", thing, "b/"], [thing, thing]):
                with self.assertRaises(BadAddress):
                    Frontier(seeds)

    def test_alike_and_too_many_seeds(self):
        for seeds in (["a/", "a/"], ["a/", "b/", "a/"], ("a/b", "a/b"), ["a/"] * 25):
            with self.assertRaises(BadAddress):
                Frontier(seeds)
        for most in (1, 2, 24, 60):
            Frontier(MANY[:most], most=most)
            with self.assertRaises(BadAddress):
                Frontier(MANY[:most + 1], most=most)
        with self.assertRaises(BadAddress):
            Frontier(MANY[:25])

    def test_seeds_stay_and_may_be_changed_behind(self):
        seeds = ["b/", "a/"]
        frontier = Frontier(seeds)
        self.assertEqual(seeds, ["b/", "a/"])
        seeds.append("c/")
        self.assertEqual(list(frontier.known()), ["a/", "b/"])

    def test_what_is_told_is_the_askers_own(self):
        frontier = Frontier(["a/", "b/"])
        frontier.known().clear()
        frontier.picks(1).clear()
        frontier.known()["a/"] = 7
        self.assertEqual((frontier.known(), frontier.picks(1)), ({"a/": None, "b/": None}, ["a/", "b/"]))

    def test_picks_never_looked_at_ones_first(self):
        frontier = Frontier(["b/", "c/", "a/"])
        frontier.looked("a/", -5, [])
        self.assertEqual(frontier.picks(1), ["b/", "c/"])
        frontier.looked("b/", -9, [])
        self.assertEqual(frontier.picks(1), ["c/", "b/"])
        frontier.looked("c/", -7, [])
        self.assertEqual(frontier.picks(tick=1), ["b/", "c/"])

    def test_picks_by_address_among_like_ones(self):
        frontier = Frontier(["b/", "c/", "a/", "d/"], lanes=3)
        self.assertEqual(frontier.picks(1), ["a/", "b/", "c/"])
        for address in ["d/", "c/", "b/", "a/"]:
            frontier.looked(address, 1, [])
        self.assertEqual(frontier.picks(3), ["a/", "b/", "c/"])

    def test_picks_one_of_each_house(self):
        frontier = Frontier(["a/", "a/x", "a/y", "b/", "b/x", "c/z"], lanes=9)
        self.assertEqual(frontier.picks(1), ["a/", "b/", "c/z"])
        for lanes in range(1, 10):
            frontier = Frontier(MANY[:24], lanes=lanes)
            self.assertEqual(frontier.picks(1), ["a/", "b/", "c/"][:lanes])

    def test_picks_none_of_a_house_looked_at_too_lately(self):
        for gap in range(1, 10):
            frontier = Frontier(["a/", "a/x", "b/"], gap=gap)
            frontier.looked("a/", 20, [])
            for tick in range(10, 35):
                wanted = ["a/x", "b/"] if tick - gap >= 20 else ["b/"]
                self.assertEqual(frontier.picks(tick), wanted)

    def test_picks_change_nothing(self):
        frontier = Frontier(["a/", "b/", "c/"])
        self.assertEqual([frontier.picks(1) for _ in range(3)], [["a/", "b/"]] * 3)
        self.assertEqual(frontier.known(), {"a/": None, "b/": None, "c/": None})

    def test_looked(self):
        frontier = Frontier(["a/", "b/"])
        self.assertIsNone(frontier.looked("a/", 3, ["c/", "a/x"]))
        self.assertEqual(list(frontier.known().items()), [("a/", 3), ("a/x", None), ("b/", None), ("c/", None)])
        self.assertIsNone(frontier.looked(links=("d/",), tick=4, address="c/"))
        self.assertEqual(frontier.known(), {"a/": 3, "a/x": None, "b/": None, "c/": 4, "d/": None})
        for tick in (5, 0, -3, 10 ** 9):
            frontier.looked("a/", tick, [])
            self.assertEqual(frontier.known()["a/"], tick)

    def test_links_that_are_known(self):
        frontier = Frontier(["a/", "b/"])
        frontier.looked("a/", 3, ["a/", "b/", "c/", "c/", "b/"])
        self.assertEqual(frontier.known(), {"a/": 3, "b/": None, "c/": None})
        frontier.looked("c/", 4, ["a/", "c/"])
        self.assertEqual(frontier.known(), {"a/": 3, "b/": None, "c/": 4})

    def test_no_more_than_most(self):
        frontier = Frontier(["a/"], most=3)
        frontier.looked("a/", 1, ["z/", "a/", "b/", "c/", "d/"])
        self.assertEqual(list(frontier.known()), ["a/", "b/", "z/"])
        frontier.looked("z/", 2, ["c/", "e/"])
        self.assertEqual(frontier.known(), {"a/": 1, "b/": None, "z/": 2})
        alone = Frontier(["a/"], most=1)
        alone.looked("a/", 1, ["b/"])
        self.assertEqual(alone.known(), {"a/": 1})

    def test_links_stay_and_may_be_changed_behind(self):
        frontier = Frontier(["a/"])
        links = ["c/", "b/"]
        frontier.looked("a/", 1, links)
        self.assertEqual(links, ["c/", "b/"])
        links.append("d/")
        self.assertEqual(list(frontier.known()), ["a/", "b/", "c/"])

    def test_not_known(self):
        frontier = Frontier(["a/", "b/"])
        frontier.looked("a/", 3, [])
        for thing in NO_ADDRESSES + NO_TEXTS + DEEP + ["c/", "a/x", Strange(), b"a/", ["a/"], ("a/",)]:
            for links in ([], ["c/"], None, ["no"]):
                self.refused(NotKnown, frontier, thing, 4, links)

    def test_links_that_are_no_list_of_addresses(self):
        frontier = Frontier(["a/", "b/"])
        for thing in NO_TEXTS + DEEP + ["", "a/", {"a/": 1}, {"a/"}, iter(["a/"])]:
            if thing not in ([], ()) and thing != ["a/"] and thing != ("a/",):
                self.refused(BadAddress, frontier, "a/", 4, thing)
        for thing in NO_ADDRESSES + NO_TEXTS:
            for links in ([thing], (thing,), ["c/", thing], [thing, "c/"]):
                self.refused(BadAddress, frontier, "a/", 4, links)

    def test_picks_of_chance(self):
        chance = random.Random(101)
        for _ in range(400):
            gap, lanes, most = chance.randrange(1, 10), chance.randrange(1, 10), chance.randrange(1, 61)
            frontier = Frontier(chance.sample(MANY, chance.randrange(1, most + 1)), gap=gap, lanes=lanes, most=most)
            for _ in range(6):
                for address in chance.sample(list(frontier.known()), chance.randrange(len(frontier.known()) + 1)):
                    frontier.looked(address, chance.randrange(-3, 12), chance.sample(MANY, chance.randrange(3)))
                tick = chance.randrange(-2, 16)
                self.assertEqual(frontier.picks(tick), plain_picks(frontier.known(), gap, lanes, tick))
                self.assertLessEqual(len(frontier.known()), most)


class WithinTheBoundTest(unittest.TestCase):
    def go(self, chance, seeds, gap, lanes, most, links):
        """Looks for many ticks, the links being of chance; each known address is looked at within the bound."""
        frontier = Frontier(seeds, gap=gap, lanes=lanes, most=most)
        bound = frontier.bound()
        first = chance.randrange(-5, 5)
        # Looks ahead of the first of these ticks.
        for address in chance.sample(seeds, chance.randrange(len(seeds) + 1)):
            frontier.looked(address, first - chance.randrange(1, 4), [])
        since = {address: first for address in seeds}
        by_house = {}
        for tick in range(first, first + 2 * bound + 2):
            for address in frontier.picks(tick):
                house = address.split("/")[0]
                self.assertLessEqual(by_house.get(house, tick - gap), tick - gap)
                by_house[house] = tick
                frontier.looked(address, tick, links())
                since[address] = tick + 1
            for address in frontier.known():
                self.assertLess(tick - since.setdefault(address, tick + 1) + 1, bound, (address, tick))

    def test_of_chance(self):
        chance = random.Random(102)
        for _ in range(60):
            gap, lanes, most = chance.randrange(1, 10), chance.randrange(1, 10), chance.randrange(2, 30)
            some = chance.sample(MANY, chance.randrange(1, len(MANY) + 1))
            seeds = chance.sample(some, min(chance.randrange(1, most + 1), len(some)))
            self.go(chance, seeds, gap, lanes, most, lambda: chance.sample(some, min(chance.randrange(3), len(some))))

    def test_all_of_one_house(self):
        chance = random.Random(103)
        for gap, lanes, most in [(1, 1, 8), (2, 2, 8), (9, 1, 6), (3, 9, 8), (2, 1, 1)]:
            house = MANY[:8][:most]
            self.go(chance, house, gap, lanes, most, list)
            self.go(chance, house[:1], gap, lanes, most, lambda: house)

    def test_all_of_unlike_houses(self):
        chance = random.Random(104)
        houses = [f"h{at}/" for at in range(60)]
        for gap, lanes, most in [(1, 1, 60), (2, 2, 24), (1, 9, 60), (9, 9, 10), (2, 7, 33)]:
            self.go(chance, houses[:most], gap, lanes, most, list)
            self.go(chance, houses[:1], gap, lanes, most, lambda: chance.sample(houses, 3))
