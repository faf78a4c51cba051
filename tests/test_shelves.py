"""Point [16]: shelves; of point [2](f), what it says of a shelf behind any cut."""

import random
import unittest

from asifread.disk import Disk
from asifread.errors import BadEntry, NoMoment, NoPart
from asifread.shelves import Shelf
from others import DEEP, NO_TEXTS, Strange
from test_addresses import NO_ADDRESSES
from test_coding import NO_TICKS
from test_disk import NO_NUMBERS
from test_parts import some_entry

A1, A2, A3 = ("a/", "cat", 1), ("a/", "dog", 2), ("a/", None, 3)
B1, B2 = ("b/", "bird", 1), ("b/", "!hide\nbird", 2)
WORDS = ["cat", "dog", "x", "bird", "a", "none"]


def view_told(view):
    """All that a View tells."""
    counts = view.counts()
    return (
        list(view.book().items()), view.shown(), [vars(view.page(address)) for address in view.shown()],
        [(word, list(view.found(word).items())) for word in WORDS],
        (counts.pages, list(counts.words.items()), list(counts.links.items())),
    )


def told(shelf):
    """All that a Shelf tells, but for its views."""
    return shelf.moment(), shelf.floor(), shelf.parts(), len(shelf)


def all_told(shelf):
    """All that a Shelf tells, and the books of all its views."""
    books = [list(shelf.view(moment).book().items()) for moment in range(shelf.floor(), shelf.moment() + 1)]
    return told(shelf), books


class PlainShelf:
    """What a Shelf should tell: all entries are kept, and what is let go is only marked."""

    def __init__(self):
        self.entries, self.gone, self.ends, self.least = [], [], [], 0

    def copy(self):
        other = PlainShelf()
        other.entries, other.gone = list(self.entries), list(self.gone)
        other.ends, other.least = list(self.ends), self.least
        return other

    def seal(self):
        if len(self.entries) > ([0] + self.ends)[-1]:
            self.ends.append(len(self.entries))

    def pour(self, at):
        first, end = ([0] + self.ends)[at], self.ends[at + 1]
        del self.ends[at]
        for number in range(first, end):
            behind = self.entries[number + 1:min(end, self.least)]
            self.gone[number] |= any(entry[0] == self.entries[number][0] for entry in behind)

    def all_told(self):
        books = []
        for moment in range(self.least, len(self.entries) + 1):
            last = {entry[0]: entry for entry in self.entries[:moment]}
            books.append([(address, last[address][1:]) for address in sorted(last) if last[address][1] is not None])
        parts = list(zip([0] + self.ends, self.ends))
        return (len(self.entries), self.least, parts, self.gone.count(False)), books


def some_deed(chance, shelf, plain):
    """One deed of chance at both; whether it wrote."""
    kind = chance.choice(("give", "give", "seal", "pour", "trim"))
    if kind == "give":
        entries = [some_entry(chance) for _ in range(chance.choice((1, 1, 2, 3, 9)))]
        shelf.give(chance.choice((list, tuple))(entries))
        plain.entries += entries
        plain.gone += [False] * len(entries)
    elif kind == "seal":
        many = len(plain.entries) - ([0] + plain.ends)[-1]
        assert shelf.seal() == many
        plain.seal()
        return many > 0
    elif kind == "trim":
        floor = chance.randrange(len(plain.entries) + 1)
        shelf.trim(floor)
        plain.least = max(plain.least, floor)
    else:
        if len(plain.ends) < 2:
            return False
        at = chance.randrange(len(plain.ends) - 1)
        shelf.pour(at)
        plain.pour(at)
    return True


class ShelfTest(unittest.TestCase):
    def setUp(self):
        self.disk = Disk()
        self.shelf = Shelf(self.disk)

    def test_at_first(self):
        self.assertEqual(all_told(self.shelf), ((0, 0, [], 0), [[]]))
        self.assertEqual(self.disk.writes(), 0)
        self.assertEqual(told(Shelf(disk=Disk())), (0, 0, [], 0))

    def test_give(self):
        self.assertIsNone(self.shelf.give([A1]))
        self.assertEqual(told(self.shelf), (1, 0, [], 1))
        self.assertIsNone(self.shelf.give(entries=(A2, B1) * 4 + (A3,)))
        self.assertEqual(told(self.shelf), (10, 0, [], 10))
        self.assertEqual(list(self.shelf.view(10).book().items()), [("b/", ("bird", 1))])
        self.assertEqual(list(self.shelf.view(9).book().items()), [("a/", ("dog", 2)), ("b/", ("bird", 1))])
        self.assertEqual(list(self.shelf.view(1).book().items()), [("a/", ("cat", 1))])

    def test_the_list_given_stays_and_may_be_changed_behind(self):
        entries = [A1, B1]
        self.shelf.give(entries)
        self.assertEqual(entries, [A1, B1])
        entries[0] = A2
        entries.clear()
        self.assertEqual(self.shelf.view(2).book(), {"a/": ("cat", 1), "b/": ("bird", 1)})

    def refused(self, kind, method, *arguments):
        before = all_told(self.shelf), self.disk.writes()
        with self.assertRaises(kind) as caught:
            getattr(self.shelf, method)(*arguments)
        self.assertEqual((all_told(self.shelf), self.disk.writes()), before)
        return caught.exception

    def test_no_lists_of_entries(self):
        self.shelf.give([A1])
        for thing in NO_TEXTS + DEEP + ["", "a/", {"a/": 1}, {A1: 1}, {A1}, iter([A1]), A1, A1 + (B1,)]:
            self.assertEqual(self.refused(BadEntry, "give", thing).at, 0)
        self.assertEqual(self.refused(BadEntry, "give", []).at, 0)
        self.assertEqual(self.refused(BadEntry, "give", ()).at, 0)

    def test_more_than_nine(self):
        for many in [10, 11, 20, 100]:
            self.assertEqual(self.refused(BadEntry, "give", [A1] * many).at, 9)
            self.assertEqual(self.refused(BadEntry, "give", (A1,) * many).at, 9)
            self.assertEqual(self.refused(BadEntry, "give", [A1] * 3 + [None] + [A1] * many).at, 3)
            self.assertEqual(self.refused(BadEntry, "give", [A1] * 9 + [None] + [A1] * many).at, 9)
        self.shelf.give([A1] * 9)

    def test_an_entry_that_is_none_at_each_place(self):
        for many in range(1, 10):
            for at in range(many):
                for bad in [None, ("a/",), ["a/", "cat", 1], ("a", "cat", 1), ("a/", 1, 1), ("a/", "cat", True)]:
                    entries = [A1] * many
                    entries[at] = bad
                    self.assertEqual(self.refused(BadEntry, "give", entries).at, at)
        self.assertEqual(self.refused(BadEntry, "give", [A1, None, A1, None]).at, 1)

    def test_entries_that_are_none(self):
        things = [thing for thing in NO_TEXTS if thing is not None]
        wrong = [(thing, "cat", 1) for thing in NO_ADDRESSES + NO_TEXTS] + [("a/", thing, 1) for thing in things]
        wrong += [("a/", "cat", thing) for thing in NO_TICKS] + NO_TEXTS + DEEP
        for bad in wrong + ["a/c", ("a/", "cat"), ("a/", "cat", 1, 1), list(A1), (A1,), Strange(), {"a/": 1, "cat": 2, 1: 3}]:
            self.assertEqual(self.refused(BadEntry, "give", [bad]).at, 0)
            self.assertEqual(self.refused(BadEntry, "give", (A1, bad)).at, 1)

    def test_seal(self):
        self.assertEqual(self.shelf.seal(), 0)
        self.assertEqual((told(self.shelf), self.disk.writes()), ((0, 0, [], 0), 0))
        self.shelf.give([A1, B1])
        self.shelf.give([A2])
        self.assertEqual(self.shelf.seal(), 3)
        self.assertEqual(told(self.shelf), (3, 0, [(0, 3)], 3))
        writes = self.disk.writes()
        self.assertEqual(self.shelf.seal(), 0)
        self.assertEqual((told(self.shelf), self.disk.writes()), ((3, 0, [(0, 3)], 3), writes))
        self.shelf.give([A3])
        self.assertEqual(self.shelf.seal(), 1)
        self.assertEqual(told(self.shelf), (4, 0, [(0, 3), (3, 4)], 4))

    def test_parts_are_the_askers_own(self):
        self.shelf.give([A1])
        self.shelf.seal()
        self.shelf.parts().clear()
        self.assertEqual(self.shelf.parts(), [(0, 1)])
        self.assertIsInstance(self.shelf.parts()[0], tuple)

    def test_pour(self):
        for entry in [A1, B1, A2, B2, A3]:
            self.shelf.give([entry])
            self.shelf.seal()
        self.assertEqual(self.shelf.parts(), [(0, 1), (1, 2), (2, 3), (3, 4), (4, 5)])
        self.assertIsNone(self.shelf.pour(1))
        self.assertEqual(told(self.shelf), (5, 0, [(0, 1), (1, 3), (3, 4), (4, 5)], 5))
        self.shelf.pour(at=0)
        self.assertEqual(told(self.shelf), (5, 0, [(0, 3), (3, 4), (4, 5)], 5))
        self.shelf.pour(1)
        self.assertEqual(told(self.shelf), (5, 0, [(0, 3), (3, 5)], 5))
        self.shelf.trim(4)
        self.assertEqual(len(self.shelf), 5)
        self.shelf.pour(0)
        # Below 4 are A1, B1, A2, B2: the first two are let go.
        self.assertEqual(told(self.shelf), (5, 4, [(0, 5)], 3))

    def test_pour_by_the_floor(self):
        for floor, many in [(0, 4), (1, 4), (2, 3), (3, 2), (4, 1)]:
            disk = Disk()
            shelf = Shelf(disk)
            shelf.give([A1, A2])
            shelf.seal()
            shelf.give([A3, A1])
            shelf.seal()
            shelf.trim(floor)
            self.assertEqual(len(shelf), 4)
            shelf.pour(0)
            self.assertEqual(len(shelf), many)
            self.assertEqual(all_told(Shelf(disk)), all_told(shelf))

    def test_no_part(self):
        for many in range(4):
            for at in NO_NUMBERS + [many - 1, many, many + 1] + DEEP + NO_TEXTS:
                if isinstance(at, int) and not isinstance(at, bool) and 0 <= at < many - 1:
                    continue
                self.refused(NoPart, "pour", at)
            self.shelf.give([A1, B1])
            self.refused(NoPart, "pour", max(many - 1, 0))
            self.shelf.seal()

    def test_trim(self):
        self.shelf.trim(0)
        self.assertEqual(told(self.shelf), (0, 0, [], 0))
        self.shelf.give([A1, A2, A3, B1])
        self.assertIsNone(self.shelf.trim(2))
        self.assertEqual(self.shelf.floor(), 2)
        self.shelf.trim(floor=1)
        self.assertEqual(self.shelf.floor(), 2)
        self.shelf.trim(0)
        self.assertEqual(told(self.shelf), (4, 2, [], 4))
        self.shelf.trim(4)
        self.assertEqual(told(self.shelf), (4, 4, [], 4))

    def test_no_moment_to_trim_to(self):
        for many in range(3):
            for floor in NO_NUMBERS + [many + 1, many + 2] + DEEP + NO_TEXTS:
                if isinstance(floor, int) and not isinstance(floor, bool) and 0 <= floor <= many:
                    continue
                self.refused(NoMoment, "trim", floor)
            self.shelf.trim(many)
            self.shelf.give([A1])


class DiskOfAShelfTest(unittest.TestCase):
    def test_the_disk_is_kept_and_changed_itself(self):
        disk = Disk()
        shelf = Shelf(disk)
        for deed in [lambda: shelf.give([A1]), lambda: shelf.seal(), lambda: shelf.trim(1), lambda: shelf.trim(0)]:
            writes = disk.writes()
            deed()
            self.assertGreater(disk.writes(), writes)
            self.assertEqual(all_told(Shelf(disk)), all_told(shelf))

    def test_opening_writes_nothing(self):
        disk = Disk()
        shelf = Shelf(disk)
        shelf.give([A1, A2])
        shelf.seal()
        shelf.give([B1])
        for many in range(disk.writes() + 1):
            cut = disk.cut(many)
            before = cut.names(), [cut.read(name) for name in cut.names()]
            Shelf(cut)
            self.assertEqual((cut.names(), [cut.read(name) for name in cut.names()]), before)
            self.assertEqual(cut.writes(), many)

    def test_each_deed_begins_with_a_put(self):
        chance = random.Random(61)
        for _ in range(40):
            disk = Disk()
            shelf, plain = Shelf(disk), PlainShelf()
            for _ in range(12):
                writes = disk.writes()
                wrote = some_deed(chance, shelf, plain)
                self.assertEqual(disk.writes() > writes, wrote)
                if not wrote:
                    continue
                ahead, behind = disk.cut(writes), disk.cut(writes + 1)
                self.assertLessEqual(set(ahead.names()), set(behind.names()))
                # By the first write all is done; the others make room alone.
                self.assertEqual(all_told(Shelf(behind)), all_told(shelf))
                for many in range(writes + 1, disk.writes()):
                    self.assertLess(set(disk.cut(many + 1).names()), set(disk.cut(many).names()))

    def test_room_is_made(self):
        disk = Disk()
        shelf = Shelf(disk)
        for at in range(5):
            shelf.give([A1, B1])
            shelf.give([A2])
            shelf.seal()
        shelf.trim(15)
        while len(shelf.parts()) > 1:
            shelf.pour(0)
        self.assertEqual(len(shelf), 2)
        self.assertEqual(len(disk.names()), 2)
        self.assertLess(sum(len(disk.read(name)) for name in disk.names()), 60)

    def test_room_is_made_behind_a_fall_too(self):
        disk = Disk()
        shelf = Shelf(disk)
        for at in range(3):
            shelf.give([A1])
        writes = disk.writes()
        shelf.seal()
        disk = disk.cut(writes + 1)
        self.assertEqual(len(disk.names()), 4)
        shelf = Shelf(disk)
        shelf.give([A2])
        shelf.seal()
        writes = disk.writes()
        shelf.pour(0)
        disk = disk.cut(writes + 1)
        shelf = Shelf(disk)
        self.assertEqual(told(shelf), (4, 0, [(0, 4)], 4))
        shelf.give([A3])
        shelf.seal()
        self.assertEqual(told(shelf), (5, 0, [(0, 4), (4, 5)], 5))
        self.assertEqual(len(disk.names()), 2)
        self.assertEqual(all_told(Shelf(disk)), all_told(shelf))

    def test_files_of_others_are_left_alone(self):
        disk = Disk()
        disk.put("notes", [1, 2, 3])
        shelf = Shelf(disk)
        shelf.give([A1])
        shelf.seal()
        self.assertEqual(disk.read("notes"), [1, 2, 3])
        self.assertEqual(all_told(Shelf(disk)), all_told(shelf))

    def test_behind_any_cut(self):
        chance = random.Random(62)
        for _ in range(40):
            disk = Disk()
            shelf, plain = Shelf(disk), PlainShelf()
            # What was told behind each number of writes.
            stood = [(all_told(shelf), plain.copy())]
            for _ in range(25):
                some_deed(chance, shelf, plain)
                self.assertEqual(all_told(shelf), plain.all_told())
                stood += [(all_told(shelf), plain.copy())] * (disk.writes() + 1 - len(stood))
            self.assertEqual(len(stood), disk.writes() + 1)
            for many, (wanted, _) in enumerate(stood):
                self.assertEqual(all_told(Shelf(disk.cut(many))), wanted)
            many = chance.randrange(len(stood))
            cut, plain = disk.cut(many), stood[many][1]
            shelf = Shelf(cut)
            stood = stood[:many + 1]
            for _ in range(12):
                some_deed(chance, shelf, plain)
                self.assertEqual(all_told(shelf), plain.all_told())
                stood += [(all_told(shelf), None)] * (cut.writes() + 1 - len(stood))
            for many, (wanted, _) in enumerate(stood):
                self.assertEqual(all_told(Shelf(cut.cut(many))), wanted)

    def test_fallen_again_and_again(self):
        chance = random.Random(63)
        for _ in range(60):
            disk = Disk()
            shelf, plain = Shelf(disk), PlainShelf()
            for _ in range(30):
                before, writes = plain.copy(), disk.writes()
                some_deed(chance, shelf, plain)
                if chance.randrange(3) == 0:
                    many = chance.randrange(writes, disk.writes() + 1)
                    disk = disk.cut(many)
                    shelf = Shelf(disk)
                    plain = plain if many > writes else before
                self.assertEqual(all_told(shelf), plain.all_told())
            self.assertEqual(all_told(Shelf(disk)), plain.all_told())
