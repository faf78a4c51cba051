"""Point [12]: edits, distances, the nearest word; of point [2](e), that the nearest word is told."""

import functools
import itertools
import random
import unittest

from asifread.pages import parsed
from asifread.plain import counted
from asifread.spelling import distance, edited, edits_between, nearest
from others import DEEP, NO_TEXTS, Strange

SIGNS = "abcdefghijklmnopqrstuvwxyz0123456789"


def all_edits(word, signs):
    """All edits of the word with these signs."""
    found = [("put", at, sign) for at in range(len(word) + 1) for sign in signs]
    found += [("drop", at) for at in range(len(word))]
    found += [("change", at, sign) for at in range(len(word)) for sign in signs if sign != word[at]]
    return found + [("swap", at) for at in range(len(word) - 1) if word[at] != word[at + 1]]


@functools.lru_cache(maxsize=None)
def plain_distance(one, other):
    """The distance, reckoned another way: from the ends of the words."""
    if not one or not other:
        return len(one + other)
    ways = [plain_distance(one[:-1], other) + 1, plain_distance(one, other[:-1]) + 1]
    ways.append(plain_distance(one[:-1], other[:-1]) + (one[-1] != other[-1]))
    if len(one) > 1 and len(other) > 1 and one[-2:] == other[-1] + other[-2]:
        ways.append(plain_distance(one[:-2], other[:-2]) + 1)
    return min(ways)


def cut_distance(one, other):
    """The distance, reckoned a third way: the words cut into as many pieces, each of which is one edit or none."""
    def cuts(word):
        for sizes in itertools.product((0, 1, 2), repeat=len(word) + 2):
            if sum(sizes) == len(word):
                ends = list(itertools.accumulate(sizes, initial=0))
                yield [word[first:end] for first, end in zip(ends, ends[1:])]

    def cost(piece, made):
        if piece == made:
            return 0
        return 1 if len(piece) < 2 and len(made) < 2 or len(piece) == 2 and piece == made[::-1] else 99

    many = max(len(one), len(other)) + 2
    pad = lambda pieces: [pieces + [""] * (many - len(pieces))]
    pairs = itertools.product(
        [p for cut in cuts(one) for p in pad(cut)], [p for cut in cuts(other) for p in pad(cut)],
    )
    return min(sum(map(cost, pieces, made)) for pieces, made in pairs)


class EditedTest(unittest.TestCase):
    def test_put(self):
        for at, wanted in enumerate(["xcat", "cxat", "caxt", "catx"]):
            self.assertEqual(edited("cat", [("put", at, "x")]), wanted)
        self.assertEqual(edited("", [("put", 0, "9")]), "9")
        for at in [-1, 4, 5, 10 ** 100]:
            self.assertIsNone(edited("cat", [("put", at, "x")]))
        self.assertIsNone(edited("", [("put", 1, "x")]))

    def test_drop(self):
        for at, wanted in enumerate(["at", "ct", "ca"]):
            self.assertEqual(edited("cat", [("drop", at)]), wanted)
        self.assertEqual(edited("a", [("drop", 0)]), "")
        for at in [-1, 3, 4, 10 ** 100]:
            self.assertIsNone(edited("cat", [("drop", at)]))
        self.assertIsNone(edited("", [("drop", 0)]))

    def test_change(self):
        for at, wanted in enumerate(["0at", "c0t", "ca0"]):
            self.assertEqual(edited("cat", [("change", at, "0")]), wanted)
            self.assertIsNone(edited("cat", [("change", at, "cat"[at])]))
        for at in [-1, 3, 4, 10 ** 100]:
            self.assertIsNone(edited("cat", [("change", at, "x")]))
        self.assertIsNone(edited("", [("change", 0, "x")]))

    def test_swap(self):
        for at, wanted in enumerate(["acts", "ctas", "cast"]):
            self.assertEqual(edited("cats", [("swap", at)]), wanted)
        for at in [-1, 3, 4, 5, 10 ** 100]:
            self.assertIsNone(edited("cats", [("swap", at)]))
        self.assertIsNone(edited("", [("swap", 0)]))
        self.assertIsNone(edited("a", [("swap", 0)]))
        self.assertEqual(edited("abb", [("swap", 0)]), "bab")
        self.assertIsNone(edited("abb", [("swap", 1)]))
        self.assertIsNone(edited("aab", [("swap", 0)]))

    def test_none(self):
        for word in ["", "a", "cat", "abcdefghijkl"]:
            self.assertEqual(edited(word, []), word)
            self.assertEqual(edited(word, ()), word)

    def test_one_behind_the_other(self):
        edits = [("drop", 0), ("put", 2, "t"), ("swap", 0), ("change", 1, "o")]
        self.assertEqual(edited("cat", edits), "tot")
        self.assertEqual(edited("cat", tuple(edits)), "tot")
        self.assertEqual(edited(edits=edits, word="cat"), "tot")
        self.assertEqual(edits, [("drop", 0), ("put", 2, "t"), ("swap", 0), ("change", 1, "o")])
        self.assertEqual(edited("a", [("put", 1, "b"), ("put", 2, "c"), ("drop", 0), ("drop", 0), ("drop", 0)]), "")
        self.assertIsNone(edited("a", [("put", 1, "b"), ("put", 3, "c")]))
        self.assertIsNone(edited("ab", [("drop", 0), ("drop", 1)]))
        self.assertIsNone(edited("ab", [("change", 0, "x"), ("change", 0, "x")]))
        self.assertEqual(edited("ab", [("change", 0, "x"), ("change", 0, "a")]), "ab")
        self.assertIsNone(edited("ab", [("change", 0, "b"), ("swap", 0)]))
        self.assertEqual(edited("ab", [("swap", 0), ("swap", 0)]), "ab")

    def test_one_that_is_none_anywhere(self):
        good = [("put", 0, "a"), ("drop", 0), ("change", 0, "z"), ("swap", 0)]
        self.assertEqual(edited("cat", good), "azt")
        for at in range(5):
            for bad in [("drop", 9), None, ("drop",), ("put", 0, "A")]:
                self.assertIsNone(edited("cat", good[:at] + [bad] + good[at:]))

    def test_each_sign(self):
        for sign in map(chr, range(256)):
            wanted = sign in SIGNS
            self.assertEqual(edited("_", [("put", 0, sign)]), sign + "_" if wanted else None)
            self.assertEqual(edited("_", [("change", 0, sign)]), sign if wanted else None)
        for sign in ["", "ab", "xyz", "abc", "01", "\u00e4", None, 1, ("a",), ["a"], b"a", True, Strange()] + DEEP:
            self.assertIsNone(edited("cat", [("put", 0, sign)]))
            self.assertIsNone(edited("cat", [("change", 0, sign)]))

    def test_no_edits(self):
        for edit in [
            (), ("put",), ("put", 0), ("put", 0, "a", "b"), ("put", "a", 0), ("drop",), ("drop", 0, "a"), ("drop", 0, 0),
            ("change", 0), ("change", 0, "x", "y"), ("change",), ("swap",), ("swap", 0, 1), ("swap", 0, "a"), ("Put", 0, "a"),
            ("", 0), ("", 0, "a"), ("add", 0, "a"), ("cut", 0), (None, 0), (0, 0), (b"drop", 0), (("drop",), 0), (["drop"], 0),
            ("put", "0", "a"), ("put", None, "a"), ("put", True, "a"), ("put", False, "a"), ("put", 0.0, "a"), ("put", (0,), "a"),
            ("drop", "0"), ("drop", None), ("drop", True), ("drop", False), ("drop", 1.0), ("drop", [0]), ("drop", {}),
            ("change", True, "x"), ("change", False, "x"), ("swap", True), ("swap", False), ("swap", None), ("swap", "a"),
            ["drop", 0], ["put", 0, "a"], "drop", "ab", {"drop": 0}, {0: "drop", 1: 0}, (Strange(), 0), (Strange(), 0, "a"),
            ("drop", Strange()), ("put", Strange(), "a"), (("drop", 0),), [("drop", 0)],
        ] + NO_TEXTS:
            self.assertIsNone(edited("cat", [edit]))
            self.assertIsNone(edited("cat", (edit,)))
            self.assertIsNone(edited("cat", [("drop", 0), edit]))

    def test_no_lists(self):
        for thing in NO_TEXTS + DEEP + ["", "a", "drop", ("drop", 0), {("drop", 0): 1}, {("drop", 0)}, iter([("drop", 0)])]:
            if not (isinstance(thing, (list, tuple)) and len(thing) == 0):
                self.assertIsNone(edited("cat", thing))
                self.assertIsNone(edited("", thing))


class DistanceTest(unittest.TestCase):
    def test_by_hand(self):
        for one, other, wanted in [
            ("", "", 0), ("cat", "cat", 0), ("a", "", 1), ("", "a", 1), ("cat", "cats", 1), ("cat", "at", 1), ("cat", "ct", 1),
            ("cat", "cut", 1), ("cat", "act", 1), ("cat", "cta", 1), ("ab", "ba", 1), ("abcd", "badc", 2), ("abc", "cab", 2),
            ("abc", "bca", 2), ("abc", "cba", 2), ("cat", "dog", 3), ("", "abcdefghijkl", 12), ("abcdefghijkl", "", 12),
            ("abcdefghijkl", "mnopqrstuvwx", 12), ("abcdefghijkl", "badcfehgjilk", 6), ("abcdefghijkl", "bcdefghijkla", 2),
            ("a", "b", 1), ("aa", "a", 1), ("kitten", "sitting", 3), ("sunday", "saturday", 3),
        ]:
            with self.subTest(one=one, other=other):
                self.assertEqual(distance(one, other), wanted)
                self.assertEqual(distance(other=other, one=one), wanted)
                self.assertEqual(distance(other, one), wanted)

    def test_what_is_swapped_is_touched_by_nothing_else(self):
        # A swap with a put between, a drop between, or a change of what is swapped would be two.
        for one, other in [("ca", "abc"), ("ac", "cba"), ("abc", "ca"), ("cxa", "ac"), ("ab", "bxa"), ("xaby", "xbzay")]:
            with self.subTest(one=one, other=other):
                self.assertEqual(distance(one, other), 3)
                self.assertEqual(len(edits_between(one, other)), 3)

    def test_a_third_way(self):
        words = ["".join(signs) for many in range(4) for signs in itertools.product("abc", repeat=many)]
        chance = random.Random(22)
        for one, other in chance.sample(list(itertools.product(words, words)), 250):
            self.assertEqual(distance(one, other), cut_distance(one, other), (one, other))

    def test_of_all_short_words(self):
        words = ["".join(signs) for many in range(5) for signs in itertools.product("abc", repeat=many)]
        for one, other in itertools.product(words, words):
            self.assertEqual(distance(one, other), plain_distance(one, other))

    def test_of_many_words(self):
        chance = random.Random(23)
        for _ in range(800):
            one = "".join(chance.choices("abcd1", k=chance.randrange(13)))
            other = "".join(chance.choices("abcd1", k=chance.randrange(13)))
            if chance.randrange(3):
                other = one
                for _ in range(chance.randrange(5)):
                    other = edited(other, [chance.choice(all_edits(other, "abcd1"))])
                other = other[:12]
            self.assertEqual(distance(one, other), plain_distance(one, other))


class EditsBetweenTest(unittest.TestCase):
    def look(self, one, other):
        edits = edits_between(one, other)
        self.assertIsInstance(edits, list)
        self.assertEqual(len(edits), distance(one, other))
        self.assertEqual(edited(one, edits), other)
        return edits

    def test_by_hand(self):
        self.assertEqual(self.look("cat", "cat"), [])
        self.assertEqual(self.look("", ""), [])
        self.assertEqual(self.look("", "a"), [("put", 0, "a")])
        self.assertEqual(self.look("a", ""), [("drop", 0)])
        self.assertEqual(self.look("cat", "cart"), [("put", 2, "r")])
        self.assertEqual(self.look("cart", "cat"), [("drop", 2)])
        self.assertEqual(self.look("cat", "cut"), [("change", 1, "u")])
        self.assertEqual(self.look("cat", "act"), [("swap", 0)])
        self.assertEqual(edits_between(other="cta", one="cat"), [("swap", 1)])

    def test_of_all_short_words(self):
        words = ["".join(signs) for many in range(5) for signs in itertools.product("abc", repeat=many)]
        for one, other in itertools.product(words, words):
            self.look(one, other)

    def test_of_many_words(self):
        chance = random.Random(24)
        for _ in range(800):
            one = "".join(chance.choices("abc9", k=chance.randrange(13)))
            other = "".join(chance.choices("abc9", k=chance.randrange(13)))
            self.look(one, other)
            self.look(one, "".join(chance.sample(one, len(one))))

    def test_the_list_is_the_askers_own(self):
        edits_between("cat", "dog").clear()
        self.assertEqual(len(edits_between("cat", "dog")), 3)


class NearestTest(unittest.TestCase):
    def test_none(self):
        self.assertIsNone(nearest({}, "cat"))
        self.assertIsNone(nearest({"dog": 9}, "cat"))
        self.assertIsNone(nearest(words={"dog": 9, "doggy": 1}, word="cat"))

    def test_one_away(self):
        for other in ["at", "ct", "ca", "cart", "cats", "xcat", "cut", "act", "cta"]:
            self.assertEqual(nearest({"dog": 5, other: 1, "zebra": 7}, "cat"), other)

    def test_words_of_each_length(self):
        for many in range(1, 13):
            word = "abcdefghijkl"[:many]
            with self.subTest(word=word):
                self.assertEqual(nearest({word + "0": 1}, word), word + "0")
                self.assertEqual(nearest({"0" + word: 1}, word), "0" + word)
                self.assertEqual(nearest({"0" + word[1:] + "0": 1}, word), "0" + word[1:] + "0" if many >= 5 else None)
                self.assertEqual(nearest({word + "00": 1}, word), word + "00" if many >= 5 else None)
                self.assertIsNone(nearest({word + "000": 1}, word))
                self.assertIsNone(nearest({"0" + word + "00": 1}, word))
                if many > 2:
                    self.assertEqual(nearest({word[2:]: 1}, word), word[2:] if many >= 5 else None)
                    self.assertEqual(nearest({word[1:]: 1}, word), word[1:])
                if many > 3:
                    self.assertIsNone(nearest({word[3:]: 1}, word))
                    self.assertIsNone(nearest({word[1] + word[0] + word[2:-1] + "00": 1}, word))

    def test_it_is_the_asked_word_that_is_long_or_not(self):
        self.assertIsNone(nearest({"abcdef": 1}, "abcd"))
        self.assertEqual(nearest({"abc": 1}, "abcde"), "abc")

    def test_the_least_in_distance_first(self):
        self.assertEqual(nearest({"abcdefgh": 99, "abcdeg": 1}, "abcdef"), "abcdeg")
        self.assertEqual(nearest({"cut": 99, "cat": 1, "bat": 99}, "cat"), "cat")

    def test_then_the_greatest_in_count(self):
        for words in [{"bat": 2, "cut": 3, "art": 9}, {"cut": 3, "bat": 2}, {"cut": 10, "bat": 9}]:
            self.assertEqual(nearest(words, "cat"), "cut")
        self.assertEqual(nearest({"abxde": 1, "abcdexx": 7, "axxde": 3}, "abcde"), "abxde")
        self.assertEqual(nearest({"abcdexx": 7, "axxde": 3}, "abcde"), "abcdexx")
        self.assertEqual(nearest({"abcdexx": 2, "axxde": 3}, "abcde"), "axxde")

    def test_then_the_least(self):
        for words in [{"bat": 2, "cut": 2, "act": 2, "at": 1}, {"cut": 2, "act": 2, "bat": 2}, {"at": 2, "act": 2, "cat1": 2}]:
            self.assertEqual(nearest(words, "cat"), "act")
        self.assertEqual(nearest({"cat9": 1, "9cat": 1, "c9at": 1}, "cat"), "9cat")
        self.assertEqual(nearest({"b": 1, "ab": 1}, "a"), "ab")

    def test_the_words_stay(self):
        words = {"cut": 2, "bat": 3}
        self.assertEqual(nearest(words, "cat"), "bat")
        self.assertEqual(list(words.items()), [("cut", 2), ("bat", 3)])

    def test_of_shown_pages(self):
        book = {"a/": "a cart", "b/": "the cart, the card", "c/": "!hide\ncars cars", "d/": "care"}
        counts = counted(book)
        self.assertEqual(nearest(counts.words, "carx"), "cart")
        self.assertEqual(nearest(counted(book, struck=["b"]).words, "carx"), "care")
        self.assertEqual(parsed(book["c/"]).hidden, True)

    def test_of_many_words(self):
        chance = random.Random(25)
        for _ in range(700):
            many = chance.choice((2, 3, 4, 5, 6))
            some = lambda: "".join(chance.choices("abc", k=max(1, many + chance.randrange(-2, 4))))
            words = {some(): chance.randrange(1, 4) for _ in range(chance.randrange(12))}
            word = "".join(chance.choices("abc", k=many))
            near = [
                (plain_distance(word, other), -count, other) for other, count in words.items()
                if plain_distance(word, other) <= (1 if many < 5 else 2)
            ]
            self.assertEqual(nearest(words, word), sorted(near)[0][2] if near else None)
