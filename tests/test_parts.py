"""Point [14]: parts; of point [2](f), that a part that is written and read tells what it told."""

import itertools
import random
import unittest

from asifread.errors import BadAddress, BadRow, NoEntry, NotBeside
from asifread.pages import parsed
from asifread.parts import Part, part_of, poured
from asifread.words import tokens
from others import DEEP, NO_TEXTS, Strange
from test_addresses import NO_ADDRESSES

ENTRIES = [
    ("a/", "# Cats and cats\nA cat, a dog.", 1), ("b/", "!hide\n# hidden\ncat mouse", 2), None, ("a/", None, 3),
    ("b/x", "cat", 3), ("a/", "", 4), ("b/", "!quiet\ndogs [bird](a/)", 5),
]
ADDRESSES = ["a/", "a/b", "b/", "b/x/y", "c/z"]


def told(part):
    """All that a Part tells."""
    words = part.all_words()
    entries = [part.entry(number) for number in range(part.first, part.end)]
    numbers = [part.numbers(address) for address in ADDRESSES]
    postings = [(word, list(part.postings(word))) for word in words]
    return part.first, part.end, entries, numbers, postings, list(part.numbers_told())


def plain_postings(first, entries):
    """The postings of each word, reckoned another way."""
    rows = []
    for at, entry in enumerate(entries):
        page = parsed(entry[1]) if entry and entry[1] is not None else None
        if page and not page.hidden:
            body = [word for word, _, _ in tokens(page.body)]
            title = [word for word, _, _ in tokens(page.title)]
            rows += [(word, (first + at, body.count(word), title.count(word))) for word in {*body, *title}]
    return [(word, sorted(row for other, row in rows if other == word)) for word in sorted({word for word, _ in rows})]


def plainly_poured(entries, floor):
    """What stays of entries numbered from 0 on, reckoned another way: each is looked for behind each."""
    return [
        None if entry and any(other and other[0] == entry[0] for other in entries[at + 1:max(floor, 0)]) else entry
        for at, entry in enumerate(entries)
    ]


def some_entry(chance):
    words = " ".join(chance.choices(["cat", "Dogs", "x", "bird", "[a](b/)"], k=chance.randrange(6)))
    text = chance.choice(["", "!hide\n", "# cat x\n", "# dog\n!quiet\n", ""]) + words
    return chance.choice(ADDRESSES), chance.choice([text, text, text, None]), chance.randrange(400)


def some_part(chance, first):
    entries = [some_entry(chance) for _ in range(chance.randrange(1, 9))]
    return Part(first, [entry if chance.randrange(6) else None for entry in entries])


class PartTest(unittest.TestCase):
    def test_fields(self):
        for first in [0, 5, 10 ** 9, 10 ** 100]:
            for many in range(1, 8):
                part = Part(first, ENTRIES[:many])
                self.assertEqual((part.first, part.end), (first, first + many))
        part = Part(entries=tuple(ENTRIES), first=3)
        self.assertEqual((part.first, part.end), (3, 10))

    def test_entry(self):
        for first in [0, 7, 10 ** 9]:
            part = Part(first, ENTRIES)
            self.assertEqual([part.entry(first + at) for at in range(7)], ENTRIES)
            self.assertEqual(part.entry(number=first), ENTRIES[0])
            for number in [first - 1, first - 7, -1, first + 7, first + 8, 10 ** 100]:
                with self.assertRaises(NoEntry):
                    part.entry(number)
        self.assertIsNone(Part(4, [None]).entry(4))

    def test_numbers(self):
        part = Part(10, ENTRIES)
        for address, wanted in [("a/", [10, 13, 15]), ("b/", [11, 16]), ("b/x", [14]), ("c/", []), ("a/x", []), ("b/x/y", [])]:
            self.assertEqual(part.numbers(address), wanted)
            self.assertEqual(part.numbers(address=address), wanted)
        self.assertEqual(Part(0, [None, ("a/", None, 1), None]).numbers("a/"), [1])

    def test_numbers_of_no_address(self):
        part = Part(0, ENTRIES)
        for thing in NO_ADDRESSES + NO_TEXTS:
            with self.assertRaises(BadAddress):
                part.numbers(thing)

    def test_all_words(self):
        self.assertEqual(Part(0, ENTRIES).all_words(), ["a", "and", "bird", "cat", "dog"])
        self.assertEqual(Part(0, [None, ("a/", None, 1), ("a/", "", 1), ("a/", "!hide\ncat", 1)]).all_words(), [])
        self.assertEqual(Part(0, [("a/", "zebra\n# apple ant", 1)]).all_words(), ["ant", "apple", "zebra"])

    def test_postings(self):
        part = Part(10, ENTRIES)
        for word, wanted in [
            ("cat", [(10, 1, 2), (14, 1, 0)]), ("a", [(10, 2, 0)]), ("and", [(10, 0, 1)]), ("dog", [(10, 1, 0), (16, 1, 0)]),
            ("bird", [(16, 1, 0)]), ("mouse", []), ("hidden", []), ("cats", []), ("", []), ("none", []),
        ]:
            self.assertEqual(part.postings(word), wanted)
            self.assertEqual(part.postings(word=word), wanted)

    def test_of_many_parts(self):
        chance = random.Random(41)
        for _ in range(400):
            part = some_part(chance, chance.choice((0, 1, 200)))
            entries = [part.entry(number) for number in range(part.first, part.end)]
            wanted = plain_postings(part.first, entries)
            self.assertEqual([(word, part.postings(word)) for word in part.all_words()], wanted)
            for address in ADDRESSES:
                numbers = [part.first + at for at, entry in enumerate(entries) if entry and entry[0] == address]
                self.assertEqual(part.numbers(address), numbers)

    def test_lists_are_the_askers_own(self):
        part = Part(10, ENTRIES)
        wanted = told(part)
        for own in [part.numbers("a/"), part.all_words(), part.postings("cat"), part.numbers_told()]:
            self.assertIsInstance(own, list)
            own.clear()
        part.postings("none").append(1)
        self.assertEqual(told(part), wanted)
        self.assertEqual(part.postings("none"), [])

    def test_what_is_handed_in_stays_and_may_be_changed_behind(self):
        entries = list(ENTRIES)
        part = Part(10, entries)
        entries[0] = None
        entries.append(("z/", "more", 9))
        self.assertEqual(told(part), told(Part(10, ENTRIES)))
        part.all_words()
        self.assertEqual(entries, [None] + ENTRIES[1:] + [("z/", "more", 9)])


class EqualTest(unittest.TestCase):
    def test_equal(self):
        one, other = Part(3, ENTRIES), Part(3, tuple(ENTRIES))
        self.assertIs(one == other, True)
        self.assertIs(one != other, False)
        one.all_words()
        self.assertIs(one == other, True)
        self.assertIs(Part(0, [None]) == Part(0, [None]), True)

    def test_unequal(self):
        part = Part(3, ENTRIES)
        for other in [
            Part(4, ENTRIES), Part(2, ENTRIES), Part(3, ENTRIES[:-1]), Part(3, ENTRIES + [None]), Part(3, ENTRIES[::-1]),
            Part(3, [None] + ENTRIES[1:]), Part(3, [("a/", ENTRIES[0][1], 2)] + ENTRIES[1:]),
            Part(3, [("b/", ENTRIES[0][1], 1)] + ENTRIES[1:]), Part(3, [("a/", None, 1)] + ENTRIES[1:]),
            Part(3, [("a/", ENTRIES[0][1] + " ", 1)] + ENTRIES[1:]),
        ]:
            self.assertIs(part == other, False)
            self.assertIs(other == part, False)
            self.assertIs(part != other, True)

    def test_other_kinds(self):
        part = Part(3, ENTRIES)
        for other in [None, 3, (3, ENTRIES), ENTRIES, "part", part.numbers_told(), [], object()]:
            self.assertIs(part == other, False)
            self.assertIs(other == part, False)


class ToldTest(unittest.TestCase):
    def look(self, part):
        row = part.numbers_told()
        self.assertIsInstance(row, list)
        self.assertTrue(all(isinstance(number, int) and not isinstance(number, bool) for number in row))
        self.assertTrue(all(0 <= number <= 255 for number in row))
        for again in [part_of(row), part_of(tuple(row)), part_of(row=row)]:
            self.assertIs(again == part, True)
            self.assertEqual(told(again), told(part))
        return row

    def is_fitting(self, row):
        """Whether the row tells a Part; if so, that Part must tell just this row."""
        try:
            part = part_of(row)
        except BadRow as error:
            self.assertIsInstance(error.at, int)
            self.assertNotIsInstance(error.at, bool)
            return False
        self.assertEqual(part.numbers_told(), list(row))
        self.assertGreater(part.end, part.first)
        return True

    def test_there_and_back(self):
        for first in [0, 1, 127, 128, 10 ** 9, 10 ** 100]:
            for many in range(1, 8):
                self.look(Part(first, ENTRIES[:many]))
        self.look(Part(0, [None]))
        self.look(Part(0, [None] * 300))
        self.look(Part(5, [("a/", "x" * 2000, 10 ** 100)]))
        self.look(Part(5, [("a2345678/b2345678/c2345678/d2345678", "a\nb\n\n !\"#$&'()*+,-./:;<=>?@[\\]^_`{|}~", 0)]))

    def test_of_many_parts(self):
        chance = random.Random(42)
        rows = {}
        for _ in range(300):
            part = some_part(chance, chance.choice((0, 1, 128)))
            row = tuple(self.look(part))
            self.assertTrue(row not in rows or rows[row] == part)
            rows[row] = part

    def test_cut_anywhere(self):
        for part in [Part(0, [None]), Part(300, ENTRIES), Part(0, [("a/", None, 1)]), Part(0, [("a/", "", 200)])]:
            row = part.numbers_told()
            for many in range(len(row)):
                self.assertFalse(self.is_fitting(row[:many]))
            for at in range(len(row)):
                self.is_fitting(row[at + 1:])
                self.is_fitting(row[:at] + row[at + 1:])
                self.is_fitting(row[:at] + row[at:at + 1] + row[at:])

    def test_longer(self):
        for part in [Part(0, [None]), Part(300, ENTRIES), Part(0, [("a/", None, 1)])]:
            row = part.numbers_told()
            for more in [[0], [1], [128], [255], row, [0, 0], [97], [2, 97, 47]]:
                self.assertFalse(self.is_fitting(row + more))

    def test_a_number_otherwise(self):
        for part in [Part(0, [None]), Part(130, ENTRIES), Part(0, [("a/b", "c", 5), None, ("a/", None, 300)])]:
            row = part.numbers_told()
            for at in range(len(row)):
                for number in range(256):
                    if self.is_fitting(row[:at] + [number] + row[at + 1:]):
                        self.assertEqual(part_of(row[:at] + [number] + row[at + 1:]) == part, number == row[at])

    def test_numbers_that_are_none(self):
        row = Part(1, [None, ("a/", "cat", 1)]).numbers_told()
        for at in range(len(row)):
            wrong = [-1, 256, 10 ** 100, row[at] + 256, None, True, False, float(row[at]), str(row[at]), (row[at],), [row[at]]]
            for number in wrong + [Strange(), b"a", {}] + DEEP:
                self.assertFalse(self.is_fitting(row[:at] + [number] + row[at + 1:]))
        self.assertTrue(self.is_fitting([128, 1, 1, 0]))
        self.assertFalse(self.is_fitting([256, 1, 1, 0]))

    def test_of_anything(self):
        for thing in NO_TEXTS + DEEP + ["", "a", "part", bytes([0, 1, 0]), bytearray([0, 1, 0]), {0: 1}, range(3), iter([0, 1, 0])]:
            self.assertFalse(self.is_fitting(thing))
            self.assertFalse(self.is_fitting([thing]))
            self.assertFalse(self.is_fitting((thing, thing, thing)))
            # A 0 there tells a Part of one entry that is let go.
            is_zero = isinstance(thing, int) and not isinstance(thing, bool) and thing == 0
            self.assertIs(self.is_fitting([0, 1, thing]), is_zero)

    def test_of_all_short_rows(self):
        fitting = [row for many in range(5) for row in itertools.product((0, 1, 2, 3, 47, 97, 128, 255), repeat=many)
                   if self.is_fitting(row)]
        self.assertIn((0, 1, 0), fitting)
        self.assertIn((128, 1, 1, 0), fitting)
        self.assertNotIn((0, 0), fitting)
        self.assertEqual({row[-1] for row in fitting}, {0})

    def test_rows_that_tell_no_entries(self):
        address, text = [2, 97, 47], [1, 120]
        self.assertTrue(self.is_fitting([0, 1, 2] + address + [5] + text))
        self.assertTrue(self.is_fitting([0, 1, 1] + address + [5]))
        for row in [
            [0, 0], [0], [0, 1, 3] + address + [5] + text, [0, 1, 1] + address + [5] + text, [0, 1, 2] + address + [5],
            [0, 2, 1] + address + [5], [0, 1, 0] + address, [0, 1, 2, 1, 97, 5] + text, [0, 1, 2, 0, 5] + text,
            [0, 1, 2, 3, 97, 47, 47, 5] + text, [0, 1, 2, 2, 65, 47, 5] + text, [0, 1, 2] + address + [133, 0] + text,
            [128, 0, 1, 0], [0, 129, 0, 0], [0, 1, 128, 0], [0, 1, 2] + address + [5, 1, 37], [0, 1, 2] + address + [5, 1, 9],
            [0, 1, 2] + address + [5, 129, 0, 120], [0, 1, 2] + address + [5, 1, 248, 0],
        ]:
            self.assertFalse(self.is_fitting(row), row)

    def test_the_row_stays_and_may_be_changed_behind(self):
        row = Part(10, ENTRIES).numbers_told()
        before = list(row)
        part = part_of(row)
        self.assertEqual(row, before)
        row.clear()
        self.assertEqual(told(part), told(Part(10, ENTRIES)))


class PouredTest(unittest.TestCase):
    ONE = [("a/", "cat", 1), ("b/", "dog", 1), ("a/", "cat cat", 2), ("c/z", None, 2)]
    OTHER = [("b/", "bird", 3), ("a/", None, 3), None, ("a/", "mouse", 4), ("c/z", "x", 5)]

    def look(self, first, floor, gone):
        """Poured together, all entries stay but those at these places."""
        one, other = Part(first, self.ONE), Part(first + 4, self.OTHER)
        both = poured(one, other, floor)
        wanted = [None if at in gone else entry for at, entry in enumerate(self.ONE + self.OTHER)]
        self.assertEqual(told(both), told(Part(first, wanted)))
        self.assertEqual(told(poured(floor=floor, other=other, one=one)), told(both))
        self.assertEqual((told(one), told(other)), (told(Part(first, self.ONE)), told(Part(first + 4, self.OTHER))))

    def test_floors(self):
        for first in [0, 10]:
            for floor, gone in [
                (0, []), (1, []), (2, []), (3, [0]), (4, [0]), (5, [0, 1]), (6, [0, 1, 2]), (7, [0, 1, 2]), (8, [0, 1, 2, 5]),
                (9, [0, 1, 2, 3, 5]), (10, [0, 1, 2, 3, 5]), (1000, [0, 1, 2, 3, 5]),
            ]:
                self.look(first, first + floor, gone)
        self.look(10, 0, [])
        self.look(10, 9, [])

    def test_gone_ones_let_elder_ones_go_too(self):
        both = poured(Part(0, [("a/", "cat", 1)]), Part(1, [("a/", None, 2)]), 2)
        self.assertEqual([both.entry(0), both.entry(1)], [None, ("a/", None, 2)])
        self.assertEqual(both.all_words(), [])

    def test_an_entry_at_the_floor_lets_nothing_go(self):
        one, other = Part(0, [("a/", "cat", 1)]), Part(1, [("a/", "dog", 2)])
        self.assertEqual(poured(one, other, 1).entry(0), ("a/", "cat", 1))
        self.assertIsNone(poured(one, other, 2).entry(0))

    def test_entries_that_were_let_go_stay_so(self):
        both = poured(Part(0, [None, ("a/", "cat", 1)]), Part(2, [None]), 0)
        self.assertEqual([both.entry(at) for at in range(3)], [None, ("a/", "cat", 1), None])
        both = poured(Part(0, [None]), Part(1, [None]), 9)
        self.assertEqual([both.entry(at) for at in range(2)], [None, None])

    def test_of_one_part_alone_too(self):
        both = poured(Part(0, [("a/", "x", 1), ("a/", "y", 2)]), Part(2, [("b/", "z", 3)]), 2)
        self.assertEqual([both.entry(at) for at in range(3)], [None, ("a/", "y", 2), ("b/", "z", 3)])

    def test_not_beside(self):
        one = Part(3, self.ONE)
        for other in [one, Part(8, self.OTHER), Part(6, self.OTHER), Part(0, self.OTHER), Part(10 ** 9, self.OTHER)]:
            for floor in [0, 5, 100]:
                with self.assertRaises(NotBeside):
                    poured(one, other, floor)
        with self.assertRaises(NotBeside):
            poured(Part(7, self.OTHER), one, 0)
        self.assertEqual(told(one), told(Part(3, self.ONE)))

    def test_of_many_parts(self):
        chance = random.Random(43)
        for _ in range(400):
            parts = [some_part(chance, 0)]
            for _ in range(chance.randrange(1, 4)):
                parts.append(some_part(chance, parts[-1].end))
            entries = [part.entry(number) for part in parts for number in range(part.first, part.end)]
            floor = chance.randrange(-1, len(entries) + 3)
            while len(parts) > 1:
                at = chance.randrange(len(parts) - 1)
                parts[at:at + 2] = [poured(parts[at], parts[at + 1], floor)]
            self.assertEqual(told(parts[0]), told(Part(0, plainly_poured(entries, floor))))
            self.assertEqual(told(part_of(parts[0].numbers_told())), told(parts[0]))

    def test_both_stay(self):
        chance = random.Random(44)
        for _ in range(50):
            one = some_part(chance, 4)
            other = some_part(chance, one.end)
            before = told(one), told(other)
            poured(one, other, 100)
            self.assertEqual((told(one), told(other)), before)
