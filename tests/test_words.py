"""Point [6]: texts cut into words."""

import random
import re
import unittest

from asifread.words import is_word, root, tokens
from others import NO_TEXTS


def plain_root(text):
    text = text.lower()
    return text[:-1] if re.search(r"..[^s]s\Z", text) else text


class RootTest(unittest.TestCase):
    def test_roots(self):
        for text, wanted in [
            ("cat", "cat"), ("cats", "cat"), ("Cats", "cat"), ("CATS", "cat"), ("catS", "cat"), ("glass", "glass"),
            ("GLASS", "glass"), ("glaSs", "glass"), ("bus", "bus"), ("as", "as"), ("s", "s"), ("ss", "ss"), ("sss", "sss"),
            ("ssss", "ssss"), ("buses", "buse"), ("abcs", "abc"), ("abss", "abss"), ("asas", "asa"), ("1234", "1234"),
            ("123s", "123"), ("12s", "12s"), ("A", "a"), ("Z9", "z9"), ("yes", "yes"), ("word", "word"), ("sass", "sass"),
            ("abcdefghijks", "abcdefghijk"), ("abcdefghijss", "abcdefghijss"), ("abcdefghijkls", "abcdefghijkl"),
        ]:
            with self.subTest(text=text):
                self.assertEqual(root(text), wanted)
                self.assertEqual(root(text=text), wanted)

    def test_a_root_is_its_own_root(self):
        chance = random.Random(6)
        for _ in range(3000):
            text = "".join(chance.choice("sSaA1") for _ in range(chance.randrange(1, 13)))
            self.assertEqual(root(text), plain_root(text))
            self.assertEqual(root(root(text)), root(text))


class IsWordTest(unittest.TestCase):
    def test_words(self):
        for word in ["a", "s", "ss", "as", "bus", "cat", "glass", "9", "1a", "abcdefghijkl", "abcdefghijss", "link", "123"]:
            with self.subTest(word=word):
                self.assertIs(is_word(word), True)
                self.assertIs(is_word(thing=word), True)

    def test_no_words(self):
        for thing in [
            "", "abcdefghijklm", "abcdefghijkls", "cats", "abcs", "buses", "abcdefghijks", "Cat", "caT", "A", "a b", " a",
            "a ", "a-b", "a'", "a\n", "\n", "a_b", "a.b", "\u00e4", "\u00b2", "~", "a/", "a" * 5000,
        ] + NO_TEXTS:
            with self.subTest(thing=repr(thing)[:40] if isinstance(thing, str) else None):
                self.assertIs(is_word(thing), False)

    def test_each_sign(self):
        for code in range(400):
            self.assertIs(is_word(chr(code)), chr(code) in "abcdefghijklmnopqrstuvwxyz0123456789", code)


class TokensTest(unittest.TestCase):
    def test_places(self):
        self.assertEqual(tokens("The black cats, 7!"), [("the", 0, 3), ("black", 4, 9), ("cat", 10, 14), ("7", 16, 17)])
        self.assertEqual(tokens(text="a"), [("a", 0, 1)])
        self.assertEqual(tokens(" a\nb "), [("a", 1, 2), ("b", 3, 4)])
        self.assertEqual(tokens("a-b_c.d"), [("a", 0, 1), ("b", 2, 3), ("c", 4, 5), ("d", 6, 7)])
        self.assertEqual(tokens("x2y"), [("x2y", 0, 3)])
        self.assertEqual(tokens("don't"), [("don", 0, 3), ("t", 4, 5)])

    def test_none(self):
        for text in ["", " ", "\n", "-!~ \n", "..."]:
            self.assertEqual(tokens(text), [])

    def test_long_runs(self):
        self.assertEqual(tokens("abcdefghijk"), [("abcdefghijk", 0, 11)])
        self.assertEqual(tokens("abcdefghijkl"), [("abcdefghijkl", 0, 12)])
        self.assertEqual(tokens("abcdefghijklm"), [("abcdefghijkl", 0, 13)])
        self.assertEqual(tokens("-abcdefghijklmnopqrstuvwxyz-"), [("abcdefghijkl", 1, 27)])
        self.assertEqual(tokens("ABCDEFGHIJKLmno p"), [("abcdefghijkl", 0, 15), ("p", 16, 17)])

    def test_roots_of_the_first_twelve(self):
        self.assertEqual(tokens("abcdefghijks"), [("abcdefghijk", 0, 12)])
        self.assertEqual(tokens("abcdefghijkst"), [("abcdefghijk", 0, 13)])
        self.assertEqual(tokens("abcdefghijSSt"), [("abcdefghijss", 0, 13)])
        self.assertEqual(tokens("abcdefghijkls"), [("abcdefghijkl", 0, 13)])
        self.assertEqual(tokens("abcdefghijs"), [("abcdefghij", 0, 11)])
        self.assertEqual(tokens("bus pass yes cats"), [("bus", 0, 3), ("pass", 4, 8), ("yes", 9, 12), ("cat", 13, 17)])

    def test_each_sign(self):
        for code in list(range(32, 127)) + [10]:
            sign = chr(code)
            wanted = [(sign.lower(), 0, 1)] if re.match("[A-Za-z0-9]", sign) else []
            self.assertEqual(tokens(sign), wanted)

    def test_of_many_texts(self):
        chance = random.Random(7)
        for _ in range(3000):
            text = "".join(chance.choice("abSs1 -\n") for _ in range(chance.randrange(40)))
            wanted = [
                (plain_root(found.group()[:12]), found.start(), found.end())
                for found in re.finditer("[A-Za-z0-9]+", text)
            ]
            told = tokens(text)
            self.assertEqual(told, wanted)
            self.assertTrue(all(is_word(word) for word, _, _ in told))

    def test_a_fresh_list_at_each_call(self):
        told = tokens("a b")
        told.clear()
        self.assertEqual(len(tokens("a b")), 2)
