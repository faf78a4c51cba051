"""Point [21]: looked_all and entries_of."""

import unittest

from asifread.crawling import entries_of, looked_all
from asifread.frontier import Frontier


class Lost(Exception):
    """What a world may raise."""


def world_of(table):
    """A world that tells what stands in the table, and gone of all else; and the list of what it was asked."""
    asked = []

    def world(address, tick):
        asked.append((address, tick))
        return table.get(address, ("gone",))

    return world, asked


class LookedAllTest(unittest.TestCase):
    def look(self, seeds, table, tick=1, **numbers):
        frontier = Frontier(seeds, **numbers)
        world, asked = world_of(table)
        picks = frontier.picks(tick)
        told = looked_all(frontier, world, tick)
        self.assertEqual(asked, [(address, tick) for address in picks])
        self.assertIsInstance(told, list)
        self.assertEqual(told, [(address, table.get(address, ("gone",))) for address in picks])
        self.assertTrue(all(isinstance(look, tuple) for look in told))
        return list(frontier.known().items())

    def test_each_answer(self):
        for answer in [("page", "cat"), ("page", ""), ("moved", "no"), ("gone",), ("silent",)]:
            self.assertEqual(self.look(["a/"], {"a/": answer}), [("a/", 1)])
            self.assertEqual(self.look(["a/"], {"a/": answer}, 7), [("a/", 7)])

    def test_links_of_pages(self):
        page = ("page", "[x](c/) [x](./d) [x](a/b) [x](no) [x](b/x)")
        self.assertEqual(self.look(["a/b"], {"a/b": page}), [("a/b", 1), ("a/d", None), ("b/x", None), ("c/", None)])
        page = ("page", "!hide\n[x](c/)")
        self.assertEqual(self.look(["a/b"], {"a/b": page}), [("a/b", 1), ("c/", None)])
        page = ("page", "!quiet\n[x](c/)")
        self.assertEqual(self.look(["a/b"], {"a/b": page}), [("a/b", 1)])

    def test_moved(self):
        for link, wanted in [
            ("c/", ["c/"]), ("./d", ["a/d"]), ("./", ["a/"]), ("/x", ["a/x"]), ("../d", []), ("./b", []), ("a/b", []), ("/b", []),
            ("no", []), ("", []), ("c", []), ("./a/b/c/d", []), ("/", ["a/"]), ("C/", []),
        ]:
            known = self.look(["a/b"], {"a/b": ("moved", link)})
            self.assertEqual(known, sorted([("a/b", 1)] + [(address, None) for address in wanted]), link)

    def test_gone_and_silent_lead_to_nothing(self):
        self.assertEqual(self.look(["a/", "b/"], {"a/": ("gone",), "b/": ("silent",)}), [("a/", 1), ("b/", 1)])

    def test_only_the_picks_are_asked(self):
        seeds = ["a/", "a/x", "b/", "c/", "d/"]
        known = self.look(seeds, {address: ("page", "cat") for address in seeds}, 3, lanes=3)
        self.assertEqual(known, [("a/", 3), ("a/x", None), ("b/", 3), ("c/", 3), ("d/", None)])

    def test_looked_at_in_order(self):
        table = {"a/": ("page", "[x](x/) [x](y/)"), "b/": ("moved", "z/")}
        self.assertEqual(self.look(["b/", "a/"], table, most=4), [("a/", 1), ("b/", 1), ("x/", None), ("y/", None)])
        self.assertEqual(self.look(["b/", "a/"], table, most=5), [("a/", 1), ("b/", 1), ("x/", None), ("y/", None), ("z/", None)])

    def test_nothing_to_look_at(self):
        frontier = Frontier(["a/"])
        frontier.looked("a/", 1, [])
        world, asked = world_of({})
        self.assertEqual((looked_all(frontier, world, 2), asked), ([], []))
        self.assertEqual(looked_all(tick=3, world=world, frontier=frontier), [("a/", ("gone",))])
        self.assertEqual(asked, [("a/", 3)])

    def test_what_the_world_raises(self):
        for error in (Lost("x"), ValueError("x"), KeyError("x"), StopIteration("x"), KeyboardInterrupt("x"), RecursionError("x")):
            for fails in ("a/", "b/", "c/"):
                frontier = Frontier(["a/", "b/", "c/"], lanes=3)
                frontier.looked("c/", -9, [])
                before = list(frontier.known().items())

                def world(address, tick):
                    self.assertEqual(list(frontier.known().items()), before)
                    if address == fails:
                        raise error
                    return ("page", "[x](d/)")

                with self.assertRaises(type(error)) as caught:
                    looked_all(frontier, world, 1)
                self.assertIs(caught.exception, error)
                self.assertEqual(list(frontier.known().items()), before)
                self.assertEqual(frontier.picks(1), ["a/", "b/", "c/"])

    def test_the_frontier_tells_as_ahead_till_all_are_asked(self):
        frontier = Frontier(["a/", "b/"])
        seen = []

        def world(address, tick):
            seen.append((frontier.known(), frontier.picks(tick)))
            return ("page", "[x](d/)")

        looked_all(frontier, world, 4)
        self.assertEqual(seen, [({"a/": None, "b/": None}, ["a/", "b/"])] * 2)
        self.assertEqual(frontier.known(), {"a/": 4, "b/": 4, "d/": None})

    def test_answers_in_lists_may_be_changed_behind(self):
        answer = ["page", "cat"]
        told = looked_all(Frontier(["a/", "b/"]), lambda address, tick: answer, 1)
        answer[1] = "dog"
        self.assertEqual([(address, tuple(one)) for address, one in told], [("a/", ("page", "cat")), ("b/", ("page", "cat"))])


class EntriesOfTest(unittest.TestCase):
    def test_of_each_answer(self):
        looks = [
            ("a/", ("page", "cat")), ("b/", ("moved", "c/")), ("c/", ("silent",)), ("d/", ("gone",)), ("e/", ("page", "")),
            ("f/", ("page", "!hide\ndog")),
        ]
        wanted = [("a/", "cat", 5), ("b/", None, 5), ("d/", None, 5), ("e/", "", 5), ("f/", "!hide\ndog", 5)]
        self.assertEqual(entries_of(5, looks), wanted)
        self.assertEqual(entries_of(looks=tuple(looks), tick=5), wanted)
        self.assertEqual(len(looks), 6)

    def test_of_none(self):
        self.assertEqual(entries_of(1, []), [])
        self.assertEqual(entries_of(1, ()), [])
        self.assertEqual(entries_of(1, [("c/", ("silent",))]), [])

    def test_by_the_kind_of_the_answer_alone(self):
        looks = [("a/", ("page", "silent")), ("b/", ("moved", "silent")), ("c/", ("page", "gone")), ("d/", ("moved", "page"))]
        self.assertEqual(entries_of(3, looks), [("a/", "silent", 3), ("b/", None, 3), ("c/", "gone", 3), ("d/", None, 3)])

    def test_in_order(self):
        self.assertEqual(entries_of(0, [("b/", ("gone",)), ("a/", ("gone",))]), [("b/", None, 0), ("a/", None, 0)])
