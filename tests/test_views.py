"""Point [17]: views; of point [2](b) and (c), what they say of sealing, pouring, trimming and of elder texts."""

import random
import unittest

from asifread.disk import Disk
from asifread.errors import NoMoment
from asifread.pages import parsed
from asifread.parts import Part
from asifread.plain import Counts, counted
from asifread.shelves import Shelf
from asifread.views import View
from asifread.words import tokens
from others import DEEP, NO_TEXTS
from test_disk import NO_NUMBERS
from test_plain import fields
from test_shelves import WORDS, PlainShelf, some_deed, view_told

ENTRIES = [
    ("b/x", "# Cats\na cat [x](a/)", 1), ("a/", "!hide\ncat", 1), ("c/", "dog [x](b/x)", 1), ("b/x", None, 2),
    ("a/", "# dogs\n!quiet\ncat dog dog [x](c/)", 2), ("c/", "!hide\ndog", 3), ("b/x", "bird", 4), ("c/", "dogs [x](b/x)", 5),
]
PREFIXES = ["a", "a/", "a/b", "b/", "b/x", "b/x/y", "c", "c/z", "z", "/"]


def plainly_told(entries, struck):
    """What a View behind just these entries should tell, reckoned another way."""
    book = {}
    for address, text, tick in entries:
        book.pop(address, None)
        if text is not None:
            book[address] = (text, tick)
    pages = {address: parsed(text) for address, (text, tick) in sorted(book.items())}
    shown = [address for address in pages if not pages[address].hidden and not address.startswith(tuple(struck))]
    found = []
    for word in WORDS:
        times = []
        for address in shown:
            body = [one for one, _, _ in tokens(pages[address].body)]
            title = [one for one, _, _ in tokens(pages[address].title)]
            if word in body + title:
                times.append((address, (body.count(word), title.count(word))))
        found.append((word, times))
    counts = counted({address: text for address, (text, tick) in book.items()}, struck=struck)
    return sorted(book.items()), shown, [vars(pages[address]) for address in shown], found, fields(counts)


def filled(entries):
    shelf = Shelf(Disk())
    for entry in entries:
        shelf.give([entry])
    return shelf


class ViewTest(unittest.TestCase):
    def test_of_no_entries(self):
        view = Shelf(Disk()).view(0)
        self.assertIsInstance(view, View)
        self.assertEqual((view.book(), view.shown(), view.page("a/"), view.found("cat")), ({}, [], None, {}))
        self.assertEqual(fields(view.counts()), (0, [], []))

    def test_book(self):
        shelf = filled(ENTRIES)
        for moment, wanted in [
            (0, []), (1, [("b/x", 0)]), (2, [("a/", 1), ("b/x", 0)]), (3, [("a/", 1), ("b/x", 0), ("c/", 2)]),
            (4, [("a/", 1), ("c/", 2)]), (5, [("a/", 4), ("c/", 2)]), (6, [("a/", 4), ("c/", 5)]),
            (7, [("a/", 4), ("b/x", 6), ("c/", 5)]), (8, [("a/", 4), ("b/x", 6), ("c/", 7)]),
        ]:
            book = [(address, ENTRIES[number][1:]) for address, number in wanted]
            self.assertEqual(list(shelf.view(moment).book().items()), book)
            self.assertEqual(list(shelf.view(moment=moment, struck=["a", "b/"]).book().items()), book)

    def test_shown(self):
        shelf = filled(ENTRIES)
        for moment, wanted in [
            (0, []), (1, ["b/x"]), (2, ["b/x"]), (3, ["b/x", "c/"]), (4, ["c/"]), (5, ["a/", "c/"]), (6, ["a/"]),
            (7, ["a/", "b/x"]), (8, ["a/", "b/x", "c/"]),
        ]:
            self.assertEqual(shelf.view(moment).shown(), wanted)
            for struck in [["a"], ["b/x", "z"], ("c/", "a/"), ["b/x/"], ["a", "b", "c"], []]:
                left = [address for address in wanted if not address.startswith(tuple(struck))]
                self.assertEqual(shelf.view(moment, struck=struck).shown(), left)

    def test_page(self):
        shelf = filled(ENTRIES)
        for moment in range(9):
            view = shelf.view(moment)
            for address in ["a/", "b/x", "c/", "d/", "a/b"]:
                if address in view.shown():
                    self.assertEqual(vars(view.page(address)), vars(parsed(view.book()[address][0])))
                    self.assertIsNone(shelf.view(moment, struck=[address]).page(address))
                else:
                    self.assertIsNone(view.page(address))
        self.assertEqual(shelf.view(8).page(address="b/x").body, "bird")

    def test_page_and_found_of_anything(self):
        for view in [filled(ENTRIES).view(8), Shelf(Disk()).view(0)]:
            for thing in NO_TEXTS + DEEP + ["", "a", "cats", "CAT", "cat dog", "a//", "z/", "none", "\n", 1.5, ("a/",)]:
                self.assertIsNone(view.page(thing))
                if thing != "a":
                    self.assertEqual(view.found(thing), {})

    def test_found(self):
        shelf = filled(ENTRIES)
        for moment, word, wanted in [
            (1, "cat", [("b/x", (1, 1))]), (3, "cat", [("b/x", (1, 1))]), (4, "cat", []), (5, "cat", [("a/", (1, 0))]),
            (5, "dog", [("a/", (2, 1)), ("c/", (1, 0))]), (6, "dog", [("a/", (2, 1))]), (8, "dog", [("a/", (2, 1)), ("c/", (1, 0))]),
            (8, "bird", [("b/x", (1, 0))]), (6, "bird", []), (8, "x", [("a/", (1, 0)), ("c/", (1, 0))]), (0, "cat", []),
        ]:
            self.assertEqual(list(shelf.view(moment).found(word).items()), wanted)
            struck = shelf.view(moment, struck=["c/"]).found(word=word)
            self.assertEqual(list(struck.items()), [(address, times) for address, times in wanted if address != "c/"])

    def test_found_rises_however_the_entries_came(self):
        shelf = Shelf(Disk())
        for entry in [("c/", "cat", 1), ("a/", "cat", 1), ("b/", "cat", 1), ("a/b", "cat", 1)]:
            shelf.give([entry])
            shelf.seal()
        self.assertEqual(list(shelf.view(4).found("cat")), ["a/", "a/b", "b/", "c/"])
        self.assertEqual(list(shelf.view(4).book()), ["a/", "a/b", "b/", "c/"])

    def test_counts(self):
        shelf = filled(ENTRIES)
        self.assertIsInstance(shelf.view(3).counts(), Counts)
        counts = shelf.view(3).counts()
        self.assertEqual(fields(counts), (2, [("a", 1), ("cat", 1), ("dog", 1), ("x", 2)], [("a/", ("b",)), ("b/x", ("c",))]))
        counts = shelf.view(3, struck=["b"]).counts()
        self.assertEqual(fields(counts), (1, [("dog", 1), ("x", 1)], [("b/x", ("c",))]))

    def test_struck_by_name_alone(self):
        with self.assertRaises(TypeError):
            filled(ENTRIES).view(3, ["a"])

    def test_lists_and_dicts_are_the_askers_own(self):
        view = filled(ENTRIES).view(8)
        wanted = view_told(view)
        counts = view.counts()
        for own in [view.book(), view.shown(), view.found("dog"), view.found("none"), counts.words, counts.links]:
            own.clear()
        view.found("none")["a/"] = (1, 1)
        self.assertEqual(view_told(view), wanted)
        self.assertEqual(view.found("none"), {})

    def test_struck_stays_and_may_be_changed_behind(self):
        struck = ["a", "c/"]
        view = filled(ENTRIES).view(8, struck=struck)
        self.assertEqual(struck, ["a", "c/"])
        struck[:] = ["b"]
        self.assertEqual(view.shown(), ["b/x"])
        self.assertEqual((view.counts().pages, list(view.found("dog"))), (1, []))


class MomentTest(unittest.TestCase):
    def test_each_moment_from_the_floor_to_the_last(self):
        shelf = filled(ENTRIES)
        for floor in range(9):
            shelf.trim(floor)
            for moment in range(9):
                if moment >= floor:
                    self.assertEqual(view_told(shelf.view(moment)), plainly_told(ENTRIES[:moment], []))
                else:
                    with self.assertRaises(NoMoment):
                        shelf.view(moment)

    def test_no_moments(self):
        shelf = Shelf(Disk())
        for many in range(3):
            for thing in NO_NUMBERS + [many + 1, many + 2] + DEEP + NO_TEXTS:
                if isinstance(thing, int) and not isinstance(thing, bool) and 0 <= thing <= many:
                    continue
                with self.assertRaises(NoMoment):
                    shelf.view(thing)
                with self.assertRaises(NoMoment):
                    shelf.view(thing, struck=["a"])
            shelf.give([ENTRIES[many]])

    def test_later_deeds_change_nothing(self):
        chance = random.Random(71)
        for _ in range(40):
            shelf, plain = Shelf(Disk()), PlainShelf()
            kept = []
            for _ in range(20):
                some_deed(chance, shelf, plain)
                moment = chance.randrange(shelf.floor(), shelf.moment() + 1)
                struck = chance.sample(PREFIXES, chance.choice((0, 0, 1, 2)))
                wanted = plainly_told(plain.entries[:moment], struck)
                kept.append((shelf.view(moment, struck=struck), wanted))
            for view, wanted in kept:
                self.assertEqual(view_told(view), wanted)
            self.assertTrue(plain.least == 0 or len(shelf) <= len(plain.entries))

    def test_below_a_later_floor(self):
        shelf = filled(ENTRIES[:4])
        shelf.seal()
        shelf.give(ENTRIES[4:])
        shelf.seal()
        views = [shelf.view(moment) for moment in range(9)]
        shelf.trim(8)
        shelf.pour(0)
        self.assertEqual(len(shelf), 3)
        for moment, view in enumerate(views):
            self.assertEqual(view_told(view), plainly_told(ENTRIES[:moment], []))


class AsIfTest(unittest.TestCase):
    def test_the_same_however_entries_were_kept(self):
        chance = random.Random(72)
        for _ in range(25):
            one, plain = Shelf(Disk()), PlainShelf()
            for _ in range(25):
                some_deed(chance, one, plain)
            other = Shelf(Disk())
            for at in range(0, len(plain.entries), 9):
                other.give(plain.entries[at:at + 9])
            for moment in range(plain.least, len(plain.entries) + 1):
                struck = chance.sample(PREFIXES, chance.choice((0, 0, 1, 2)))
                wanted = plainly_told(plain.entries[:moment], struck)
                self.assertEqual(view_told(one.view(moment, struck=struck)), wanted)
                self.assertEqual(view_told(other.view(moment, struck=struck)), wanted)

    def test_no_elder_text_comes_back(self):
        entries = [("a/", "cat", 1), ("a/", "dog", 2), ("b/", "bird", 2), ("a/", None, 3), ("b/", "!hide\nx", 3), ("c/", "x", 4)]
        chance = random.Random(73)
        for _ in range(60):
            disk = Disk()
            shelf = Shelf(disk)
            for entry in entries:
                shelf.give([entry])
                if chance.randrange(3):
                    shelf.seal()
            shelf.seal()
            while len(shelf.parts()) > 1:
                if chance.randrange(2):
                    shelf.trim(chance.randrange(7))
                shelf.pour(chance.randrange(len(shelf.parts()) - 1))
                for opened in [shelf, Shelf(disk)]:
                    view = opened.view(6)
                    self.assertEqual(view.book(), {"b/": ("!hide\nx", 3), "c/": ("x", 4)})
                    self.assertEqual(view.shown(), ["c/"])
                    self.assertEqual([view.found(word) for word in ["cat", "dog", "bird"]], [{}, {}, {}])
                    self.assertEqual(view.counts().words, {"x": 1})
                    for moment in range(opened.floor(), 7):
                        self.assertEqual(view_told(opened.view(moment)), plainly_told(entries[:moment], []))

    def test_views_of_an_opened_shelf(self):
        disk = Disk()
        shelf = Shelf(disk)
        for entry in ENTRIES:
            shelf.give([entry])
            shelf.seal()
        shelf.trim(3)
        shelf.pour(0)
        for moment in range(3, 9):
            self.assertEqual(view_told(Shelf(disk).view(moment)), view_told(shelf.view(moment)))

    def test_entries_that_were_let_go(self):
        parts = [Part(0, [None, ("a/", "cat", 2), None]), Part(3, [("b/", "dog", 3), None])]
        view = View(parts, 5, ["b"])
        self.assertEqual((view.shown(), list(view.book())), (["a/"], ["a/", "b/"]))
