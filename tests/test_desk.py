"""Point [25]: the desk."""

import random
import unittest

from asifread.desk import Desk
from asifread.things import thing_text
from others import DEEP, NO_TEXTS, Strange
from test_addresses import NO_ADDRESSES
from test_things import SIGNS

ROWS = [
    'page a/ "a cat [x](b/)"', "moved a/ b/", "gone a/", "silent a/", "begin 2 3 a/", "begin 1 1 a/ b/ c/x", "tick 1", "tick 0", "ask 5 cat",
    "ask 1 ", "ask 10  ", "held", "sure", "check", "fall 0 0", "rise 0 0", "late 0 0", "prompt 0 0", "seal 0 0", "trim 0 0", "pour 0 0 0",
    "strike a", "free a", "tick 999", "ask 0 cat", "ask 999 cat",
]
WANT_NO_HOUSE = ("page", "moved", "gone", "silent", "begin")


class DeskTest(unittest.TestCase):
    def setUp(self):
        self.desk = Desk()

    def go(self, *pairs):
        """Each row is answered so."""
        for row, wanted in pairs:
            told = self.desk.answer(row)
            self.assertEqual(told, wanted, row)
            self.assertIsInstance(told, str)

    def begin(self):
        self.go(
            ('page a/ "# Black cats\\nA cat sat. [x](b/) [x](a/x)"', "ok"), ('page b/ "A dog, a \\"cat\\". [x](a/) [x](c/)"', "ok"),
            ('page a/x "A bird."', "ok"), ('page c/ "!hide\\ncats"', "ok"), ("begin 2 3 a/", "ok"),
        )

    def test_all_in_order(self):
        self.begin()
        self.go(
            ("held", "none"), ("sure", "0 0"), ("ask 5 cat", "none"), ("check", "none"),
            ("tick 1", "1"), ("held", "a/"), ("tick 1", "1"), ("held", "a/ b/"), ("sure", "1 1"), ("tick 0", "0"), ("tick 1", "2"),
            ("held", "a/ a/x b/ c/"), ("sure", "1 3"),
            ("ask 5 cats", 'a/ 3125 1 "..cat.."; b/ 1265 2 "..cat.."'), ("ask 1 cat", 'a/ 3125 1 "..cat.."'), ("ask 5 zzz", "none"),
            ("ask 5 brid", "none | brid bird"), ("ask 5 brid | dgo | zzz", "none | brid bird | dgo dog"),
            ('ask 5  "a   cat" ', 'a/ 3165 1 "A cat.."; b/ 1325 2 "A dog, a \\"cat.."'),
            ("ask 1 dgo | cat", 'a/ 3125 1 "..cat.." | dgo dog'), ("tick 10", "15"), ("check", "none"),
        )

    def test_seats(self):
        self.begin()
        self.go(
            ("tick 3", "4"), ("sure", "1 3"), ("late 1 0", "ok"), ("late 1 1", "ok"), ("tick 4", "6"), ("sure", "3 3"), ("prompt 1 0", "ok"),
            ("sure", "3 7"), ("late 1 1", "refused NoSeat"), ("prompt 1 1", "ok"), ("fall 1 0", "ok"), ("fall 1 0", "refused NoSeat"),
            ("fall 1 1", "ok"), ("fall 1 2", "ok"), ("ask 5 cat", 'b/ 40 6 "..cat.." | left out 1'), ("ask 5 zzz", "none | left out 1"),
            ("ask 5 dgo", "none | dgo dog | left out 1"), ("fall 0 0", "ok"), ("fall 0 1", "ok"), ("fall 0 2", "ok"),
            ("ask 5 cat", "none | left out 0 | left out 1"), ("held", "a/ a/x b/ c/"), ("sure", "3 7"), ("seal 0 0", "refused NoSeat"),
            ("rise 0 0", "ok"), ("seal 0 0", "ok"), ("seal 0 0", "ok"), ("trim 0 0", "ok"), ("pour 0 0 0", "refused NoPart"), ("tick 2", "3"),
            ("seal 0 0", "ok"), ("pour 0 0 0", "ok"), ("pour 0 0 999", "refused NoPart"), ("rise 0 0", "refused NoSeat"), ("rise 2 0", "refused NoShard"),
            ("seal 9 9", "refused NoShard"), ("seal 0 9", "refused NoSeat"), ("check", "none"),
        )

    def test_prefixes(self):
        self.begin()
        self.go(
            ("tick 3", "4"), ("strike b", "ok"), ("ask 5 cat", 'a/ 4600 1 "..cat.."'), ("strike b", "refused NoPrefix"), ("free a", "refused NoPrefix"),
            ("free b", "ok"), ("free b", "refused NoPrefix"), ("strike " + "x" * 35, "ok"), ("strike " + "x" * 36, "refused NoPrefix"),
            ("strike A/b-!", "ok"), ("check", "none"),
        )

    def test_refused(self):
        self.begin()
        self.go(
            ("ask 0 cat", "refused BadCount"), ("ask 11 cat", "refused BadCount"), ("ask 999 cat", "refused BadCount"), ("ask 5 ", "refused NoText"),
            ("ask 5  ", "refused NoText"), ("ask 5 (cat", "refused NoText"), ("ask 0 (cat", "refused NoText"), ("ask 5 cat~0~dog", "refused NoText"),
            ("ask 5 \n", "refused NoText"), ("begin 0 3 a/", "refused BadCount"), ("begin 5 3 a/", "refused BadCount"), ("begin 2 0 a/", "refused BadCount"),
            ("begin 2 6 a/", "refused BadCount"), ("begin 2 3 a/ a/", "refused BadAddress"), ("begin 9 9 a/ a/", "refused BadCount"),
            ("begin 2 3 " + " ".join(f"a/{at}" for at in range(25)), "refused BadAddress"), ("fall 2 0", "refused NoShard"), ("fall 0 3", "refused NoSeat"),
            ("check", "none"), ("sure", "0 0"), ("begin 2 3 " + " ".join(f"a/{at}" for at in range(24)), "ok"),
        )

    def test_a_refused_begin_leaves_the_house(self):
        self.begin()
        self.go(("tick 1", "1"), ("begin 9 1 b/", "refused BadCount"), ("held", "a/"), ("sure", "0 1"))
        self.desk = Desk()
        self.go(("begin 9 1 b/", "refused BadCount"), ("held", "no house"))

    def test_begin_again(self):
        self.begin()
        self.go(
            ("tick 5", "7"), ("strike a", "ok"), ("begin 1 2 b/ a/x", "ok"), ("held", "none"), ("sure", "0"), ("tick 1", "2"), ("held", "a/x b/"),
            ("sure", "2"), ("ask 1 bird", 'a/x 1840 1 "..bird"'), ("check", "none"), ("fall 0 1", "ok"), ("fall 0 2", "refused NoSeat"),
        )

    def test_the_world_tells_what_was_told_last(self):
        self.go(
            ("begin 1 1 a/", "ok"), ("tick 1", "1"), ("held", "none"), ('page a/ "cat"', "ok"), ("tick 2", "1"), ("held", "a/"), ("silent a/", "ok"),
            ("tick 2", "1"), ("held", "a/"), ("gone a/", "ok"), ("held", "a/"), ("tick 2", "1"), ("held", "none"), ("moved a/ ./x", "ok"),
            ('page a/x "dog"', "ok"), ("tick 4", "2"), ("held", "a/x"), ('page a/x ""', "ok"), ('page a/x "bird"', "ok"), ("tick 4", "2"),
            ("ask 3 -zzz", 'a/x 0 15 "bird"'), ("moved a/ no", "ok"), ("tick 9", "4"), ("check", "none"),
        )
        self.assertEqual(self.desk.house.log()[-1], ("tick", ()))

    def test_page_texts(self):
        for text in ["", " ", "cat  dog ", "a\nb", '"', "\\", "\\n", SIGNS, "x" * 2000, "none", ' "a" ']:
            self.desk = Desk()
            self.go(("page a/ " + thing_text(text), "ok"), ("begin 1 1 a/", "ok"), ("tick 1", "1"))
            self.assertEqual(self.desk.house.held(), {"a/": (text, 1)})

    def test_no_row(self):
        for _ in range(2):
            self.go(
                *[(row, "no row") for row in [
                    "", " ", "x", "tock 1", "Tick 1", "TICK 1", "tick1", "ticks 1", "tick", "tick ", "tick  1", " tick 1", "tick 1 ", "tick 1 1", "tick 01",
                    "tick 00", "tick 1000", "tick -1", "tick +1", "tick 1.0", "tick a", "tick 1x", "tick \u0661", "tick 1\n", "tick\t1", "\ntick 1", "tick a/",
                    "page", "page ", "page a/", "page a/ ", 'page a "cat"', 'page a/  "cat"', 'page  a/ "cat"', 'page a/ "cat" ', "page a/ cat", "page a/ 1",
                    "page a/ none", 'page a/ ("cat")', 'page a/ "cat', 'page a/ "a\nb"', 'page a/ "\\t"', 'page "cat"', 'page a/ "a" "b"', 'Page a/ "cat"',
                    "moved", "moved a/", "moved a/ ", "moved a/  b/", "moved a/ b/ c/", "moved a/ b/ ", "moved a b/", "moved b/", "moved  a/ b/",
                    "gone", "gone ", "gone a", "gone a/ ", "gone  a/", "gone a/ b/", "gone a/\n", "gone A/", "silent", "silent a", "silent a/ b/", "silent a/ ",
                    "begin", "begin 2", "begin 2 3", "begin 2 3 ", "begin 2 3  a/", "begin 2 3 a", "begin 2 3 a/ ", "begin 2 3 a/  b/", "begin 2 3 a/ b",
                    "begin 2  3 a/", "begin 02 3 a/", "begin 2 03 a/", "begin 2 a/", "begin a/", "begin 2 3 a/\n", "begin 2000 3 a/", "begin 2 3 4 a/",
                    "ask", "ask ", "ask 5", "ask  5 cat", "ask 05 cat", "ask cat", "ask 1000 cat", "ask -1 cat", "ask  cat", " ask 5 cat", "Ask 5 cat",
                    "held ", " held", "held a/", "helds", "Held", "sure ", "sure 0", "check ", "check 1", "held\n", "begin2 3 a/",
                    "fall", "fall 0", "fall 0 ", "fall 0 0 ", "fall 0  0", "fall 0 0 0", "fall 00 0", "fall 0 a", "fall -1 0", "fall 0 1000", "fall  0 0",
                    "rise 0", "late 0", "prompt 0", "seal 0", "trim 0", "rise 0 0 0", "on_time 0 0", "prompt 0 0 0", "seal 0 0 0", "trim 0 0 0", "late 0 00",
                    "pour 0 0", "pour 0 0 0 0", "pour 0 0 ", "pour 0 0 00", "pour 0  0 0", "strike", "strike ", "strike  a", "strike a b", "strike a ",
                    "free", "free ", "free a b", "free  a", "free a ", "Free a", "log", "now", "struck", "known", "ok", "none", "no row",
                ]],
            )
            for thing in NO_ADDRESSES:
                for row in ['page {} "cat"', "moved {} b/", "gone {}", "silent {}", "begin 2 3 {}", "begin 2 3 a/ {}"]:
                    self.go((row.format(thing), "no row"))
            for thing in NO_TEXTS + DEEP + [Strange(), ["held"], ("held",), b"held"]:
                self.go((thing, "no row"))
            self.desk.answer("begin 2 3 a/")
        self.go(("held", "none"), ("sure", "0 0"))
        self.assertEqual(len(self.desk.house.log()), 1)

    def test_no_house_ahead_of_begin(self):
        for row in ROWS:
            self.assertEqual(Desk().answer(row=row), "ok" if row.split()[0] in WANT_NO_HOUSE else "no house", row)
            desk = Desk()
            desk.answer("begin 2 3 a/")
            self.assertNotIn(desk.answer(row), ("no house", "no row"), row)

    def test_one_sign_otherwise(self):
        chance = random.Random(151)
        # Of these, the last thing may end in a tab.
        free = ("page", "ask", "moved", "strike", "free")
        for row in ROWS:
            words = row.split(" ")
            others = [row + " ", " " + row, row.upper(), row.replace(" ", "  ", 1), row + "\t", row.replace(" ", "", 1), row + " x"]
            if words[0] in ("begin", "tick", "fall", "rise", "late", "prompt", "seal", "trim", "pour", "ask"):
                at = chance.choice([at for at, word in enumerate(words) if word.isdigit()])
                others.append(" ".join(words[:at] + ["0" + words[at]] + words[at + 1:]))
            for other in others:
                if other == row or words[0] in free and other in (row + "\t",):
                    continue
                if words[0] == "ask" and other in (row + " ", row + " x"):
                    continue
                for desk in (Desk(), self.desk):
                    self.assertEqual(desk.answer(other), "no row", other)
        self.assertEqual(self.desk.answer("held"), "no house")

    def test_check(self):
        self.begin()
        rows = ["tick 3", "ask 5 cat", "fall 1 0", "fall 1 0", "seal 0 0", "tick 4", "ask 5 (", "pour 0 0 0", "strike b", "ask 2 dog", "late 0 1", "x"]
        for row in rows:
            self.desk.answer(row)
            self.go(("check", "none"))
        # The judge is asked in earnest.
        self.desk.house.rows.append(("rise", 0, 0))
        at = len(self.desk.house.rows) - 1
        self.go(("check", str(at)), ("tick 1", "1"), ("check", str(at)))

    def test_two_desks(self):
        self.begin()
        other = Desk()
        self.assertEqual(other.answer("held"), "no house")
        other.answer("begin 1 1 a/")
        other.answer("tick 1")
        self.assertEqual(other.answer("held"), "none")
