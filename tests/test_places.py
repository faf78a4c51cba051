"""Point [11]: the best place of a page; of point [2](a), that it stands so in the page's text."""

import random
import unittest

from asifread.pages import parsed
from asifread.places import placed, stands
from asifread.words import tokens
from others import DEEP, NO_TEXTS, Strange


def plainly_placed(page, words):
    """The best place, reckoned another way: all windows are gone through, the best one is kept."""
    told = tokens(page.body)
    if not told:
        return ("", ())
    best = None
    for size in range(1, 9):
        for begin in range(len(told) - size + 1):
            hits = [word for word, _, _ in told[begin:begin + size] if word in words]
            worth = (len(set(hits)), len(hits), -size, -begin)
            if hits and (best is None or worth > best[0]):
                best = (worth, begin, begin + size)
    begin, end = best[1:] if best else (0, min(8, len(told)))
    text, places = "", []
    for at in range(told[begin][1], told[end - 1][2]):
        text += " " if page.body[at] == "\n" else page.body[at]
    text = (".." if begin else "") + text + (".." if told[end:] else "")
    for word, first, behind in told[begin:end]:
        if word in words:
            away = told[begin][1] - (2 if begin else 0)
            places.append((first - away, behind - away))
    return (text, tuple(places))


class PlacedTest(unittest.TestCase):
    def look(self, body, words, text, places):
        for listed in (list(words), tuple(words)):
            self.assertEqual(placed(parsed(body), listed), (text, places))
        self.assertEqual(placed(words=list(words), page=parsed(body)), (text, places))

    def test_one_word(self):
        self.look("cat", ["cat"], "cat", ((0, 3),))
        self.look("a cat", ["cat"], "..cat", ((2, 5),))
        self.look("cat a", ["cat"], "cat..", ((0, 3),))
        self.look("a cat b", ["cat"], "..cat..", ((2, 5),))
        self.look("- cat -", ["cat"], "cat", ((0, 3),))

    def test_words_are_roots_and_the_text_is_as_it_stands(self):
        self.look("My CATS, and more", ["cat"], "..CATS..", ((2, 6),))
        self.look("abcdefghijklmnop x", ["abcdefghijkl"], "abcdefghijklmnop..", ((0, 16),))
        self.look("cats", ["cats"], "cats", ())

    def test_more_unlike_words_go_ahead_of_more_such_tokens(self):
        self.look("a a a a x x x x x x x a x b", ["a", "b"], "..a x b", ((2, 3), (6, 7)))
        self.look("a a a a x x x x x x a x b", ["b", "a"], "..a x b", ((2, 3), (6, 7)))

    def test_more_such_tokens_go_ahead_of_fewer_tokens(self):
        self.look("a b x x x x x x x a x b a", ["a", "b"], "..a x b a", ((2, 3), (6, 7), (8, 9)))
        self.look("a x x x x x x x a x x a", ["a"], "..a x x a", ((2, 3), (8, 9)))

    def test_fewer_tokens_go_ahead_of_the_first(self):
        self.look("a x x b x x x x x x x a x b x x x x x x x a b", ["a", "b"], "..a b", ((2, 3), (4, 5)))
        self.look("a x x b x x x x x x a x b", ["a", "b"], "..a x b", ((2, 3), (6, 7)))

    def test_of_like_ones_the_first(self):
        self.look("x a x x x x x x x x A", ["a"], "..a..", ((2, 3),))
        self.look("a x b y y y y y y y y b x a", ["a", "b"], "a x b..", ((0, 1), (4, 5)))

    def test_eight_tokens_at_most(self):
        self.look("a 1 2 3 4 5 6 b", ["a", "b"], "a 1 2 3 4 5 6 b", ((0, 1), (14, 15)))
        self.look("a 1 2 3 4 5 6 7 b", ["a", "b"], "a..", ((0, 1),))
        self.look("a a a a a a a a a a", ["a"], "a a a a a a a a..", tuple((at, at + 1) for at in range(0, 16, 2)))
        self.look("x a 1 a 2 a 3 a a a y", ["a"], "..a 2 a 3 a a a..", ((2, 3), (6, 7), (10, 11), (12, 13), (14, 15)))

    def test_windows_of_each_size(self):
        for size in range(2, 9):
            between = " ".join(str(at) for at in range(size - 2))
            inner = " ".join(["cat", between, "dog"]).replace("  ", " ")
            self.look("x " + inner + " x", ["dog", "cat"], ".." + inner + "..", ((2, 5), (len(inner) - 1, len(inner) + 2)))

    def test_no_such_token(self):
        self.look("1 2 3", ["a"], "1 2 3", ())
        self.look("- 1 2 3 4 5 6 7 8 -", ["a"], "1 2 3 4 5 6 7 8", ())
        self.look("- 1 2 3 4 5 6 7 8 9", ["a"], "1 2 3 4 5 6 7 8..", ())
        self.look("- 1 2 3 4 5 6 7 8 9", [], "1 2 3 4 5 6 7 8..", ())

    def test_no_tokens(self):
        for body in ["", " ", "\n", "- . -", "# cat", "!cat", "[](a/)"]:
            self.look(body, ["cat"], "", ())

    def test_the_body_alone(self):
        self.look("# cat\nno", ["cat"], "no", ())
        self.look("!cat\nno [cat](cat/)!", ["cat"], "..cat", ((2, 5),))
        self.look("!hide\n!quiet\ncat", ["cat"], "cat", ((0, 3),))

    def test_what_stands_between(self):
        self.look("x, a -\n. b; y", ["a", "b"], "..a - . b..", ((2, 3), (8, 9)))
        self.look("a\n\nb", ["a", "b"], "a  b", ((0, 1), (3, 4)))
        self.look("\na\n", ["a"], "a", ((0, 1),))
        self.look("..a..", ["a"], "a", ((0, 1),))

    def test_like_words_are_one(self):
        self.look("a a x x x x x x x a b", ["a", "a", "a", "b"], "..a b", ((2, 3), (4, 5)))

    def test_kinds(self):
        text, places = placed(parsed("cat"), ["cat"])
        self.assertIsInstance(places, tuple)
        self.assertIsInstance(places[0], tuple)
        self.assertIsInstance(placed(parsed(""), []), tuple)

    def test_what_is_handed_in_stays(self):
        page, words = parsed("a b\nc"), ["c", "a"]
        told = placed(page, words)
        self.assertEqual((page.body, words), ("a b\nc", ["c", "a"]))
        words.clear()
        self.assertEqual(told, ("a b c", ((0, 1), (4, 5))))

    def test_of_many_pages(self):
        chance = random.Random(21)
        for _ in range(1500):
            many = chance.choice((0, 1, 3, 8, 9, 12, 30))
            rows = chance.choices(["a", "B", "cats", "dog", "x", "x", "longer"], k=many)
            body = "".join(chance.choice((" ", "\n", ", ", "..", " -\n")) + word for word in rows)
            body += chance.choice(("", "\n", " ."))
            words = chance.sample(["a", "b", "cat", "dog", "none"], chance.randrange(5))
            page = parsed(body)
            told = placed(page, words)
            self.assertEqual(told, plainly_placed(page, words))
            inner = told[0].removeprefix("..") if told[0].startswith("..") else told[0]
            inner = inner.removesuffix("..")
            self.assertIn(inner, page.body.replace("\n", " "))
            for first, end in told[1]:
                self.assertIn(tokens(told[0][first:end])[0][0], words)
                self.assertEqual(tokens(told[0][first:end])[0][1:], (0, end - first))


class StandsTest(unittest.TestCase):
    PAGE = parsed("My cat\nand a dog.")
    WORDS = ["cat", "dog"]
    TOLD = ("..cat and a dog", ((2, 5), (12, 15)))

    def test_the_very_thing(self):
        self.assertIs(stands(self.PAGE, self.WORDS, self.TOLD), True)
        self.assertIs(stands(told=placed(self.PAGE, self.WORDS), words=tuple(self.WORDS), page=self.PAGE), True)
        self.assertIs(stands(parsed(""), [], ("", ())), True)
        self.assertIs(stands(parsed("a"), [], ("a", ())), True)

    def test_what_is_otherwise(self):
        text, places = self.TOLD
        for told in [
            (text + ".", places), (text[:-1], places), (text.replace("c", "C"), places), (text.replace(" ", "\n", 1), places),
            ("", places), (text, ()), (text, places[:1]), (text, places[1:]), (text, places + ((16, 17),)),
            (text, places[::-1]), (text, ((2, 5), (12, 16))), (text, ((2, 5), (11, 15))), (text, ((2, 4), (12, 15))),
            (text, ((2, 5, 6), (12, 15))), (text, ((2,), (12, 15))), (text, ((2, 5), 12, 15)), (text,), (text, places, ()),
            (places, text), ("", ()), (), ((), ()), (None, None), (text, None), (None, places), (text, text), text, places,
        ]:
            with self.subTest(told=told):
                self.assertIs(stands(self.PAGE, self.WORDS, told), False)

    def test_lists_for_tuples(self):
        text, places = self.TOLD
        for told in [
            [text, places], (text, list(places)), (text, (list(places[0]), places[1])), [text, [[2, 5], [12, 15]]],
            {text: places}, (text, {2: 5, 12: 15}),
        ]:
            with self.subTest(told=told):
                self.assertIs(stands(self.PAGE, self.WORDS, told), False)
        self.assertIs(stands(parsed(""), [], ["", ()]), False)
        self.assertIs(stands(parsed(""), [], ("", [])), False)

    def test_other_kinds_of_the_same_worth(self):
        page = parsed("a b")
        self.assertIs(stands(page, ["a"], ("a..", ((0, 1),))), True)
        for told in [
            ("a..", ((False, True),)), ("a..", ((0, True),)), ("a..", ((0.0, 1.0),)), (b"a..", ((0, 1),)),
            ("a..", (("0", "1"),)), ("a..", ((0, Strange()),)), ("a..", (Strange(),)), ("a..", Strange()),
            (Strange(), ((0, 1),)), (Strange(), Strange()), Strange(), ("a..", ((None, 1),)), ("a..", ("01",)), ("a..", "a"),
        ]:
            self.assertIs(stands(page, ["a"], told), False)

    def test_of_anything(self):
        for page in [self.PAGE, parsed(""), parsed("no")]:
            for thing in NO_TEXTS + DEEP + ["", "a", "a/"]:
                for told in [thing, (thing,), (thing, thing), ("no", (thing,)), ("", (thing,)), (None, thing), (thing, None)]:
                    self.assertIs(stands(page, [], told), False)
                for text in ["", "no"]:
                    wanted = isinstance(thing, tuple) and len(thing) == 0 and page.body == text
                    self.assertIs(stands(page, [], (text, thing)), wanted)
                    self.assertIs(stands(page, [], (thing, ())), thing == "" and isinstance(thing, str) and page.body == "")
