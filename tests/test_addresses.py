"""Point [4]: names, addresses, houses, and where links lead."""

import itertools
import unittest

from asifread.addresses import house_of, is_address, is_name, linked
from asifread.errors import AsIfError, BadAddress
from others import NO_TEXTS

NO_NAMES = [
    "", "a" * 9, "abcdefgh1", "A", "aB", "a b", " a", "a ", "a-b", "a_b", "a.b", "a/", "/a", "a/b", "\n", "a\n", "\na",
    "a\nb", "\t", "\u00e4", "\u00b2", "\u0663", "\u017f", "~", "!", "`", "{", ":", "@", "[", "", "a" * 5000,
]
NO_ADDRESSES = [
    "", "a", "/", "//", "/a", "/a/", "a//", "a/b/", "a//b", "a/b//c", "/a/b", "a/b/c/", "a/b/c/d/", "a/b/c/d/e", "A/",
    "a/B", "a/b/C", "a/b/c/D", " a/", "a /", "a/ ", "a/ b", "a/b ", "a/\n", "a\n/", "\na/", "a/b\n", "a/b\nc", "a/.",
    "./a", "../a", "a/..", "a/-", "a/" + "b" * 9, "a" * 9 + "/", "a" * 9 + "/b", "a/b/" + "c" * 9, "a/b/c/" + "d" * 9,
    "http://a/", "a\\b", "a/\u00e4", "a/" * 3000, "a" * 5000 + "/",
]
ADDRESSES = [
    "a/", "a/b", "a/b/c", "a/b/c/d", "0/", "9/0", "abcdefgh/", "a1b2c3d4/abcdefgh/12345678/z", "z/z/z/z", "a/a",
]


class NamesTest(unittest.TestCase):
    def test_names(self):
        for name in ["a", "z", "0", "9", "ab", "a1", "1a", "abcdefgh", "12345678", "abcdefg", "00000000"]:
            with self.subTest(name=name):
                self.assertIs(is_name(name), True)
                self.assertIs(is_name(thing=name), True)

    def test_each_small_sign_alone(self):
        for code in range(0, 400):
            wanted = chr(code) in "abcdefghijklmnopqrstuvwxyz0123456789"
            self.assertIs(is_name(chr(code)), wanted, code)
            self.assertIs(is_name("a" + chr(code)), wanted, code)

    def test_no_names(self):
        for thing in NO_NAMES + NO_TEXTS:
            with self.subTest(thing=repr(thing)[:40] if isinstance(thing, str) else None):
                self.assertIs(is_name(thing), False)

    def test_addresses(self):
        for address in ADDRESSES:
            with self.subTest(address=address):
                self.assertIs(is_address(address), True)
                self.assertIs(is_address(thing=address), True)

    def test_no_addresses(self):
        for thing in NO_ADDRESSES + NO_TEXTS:
            with self.subTest(thing=repr(thing)[:40] if isinstance(thing, str) else None):
                self.assertIs(is_address(thing), False)

    def test_all_short_texts(self):
        for many in range(7):
            for signs in itertools.product("a/", repeat=many):
                text = "".join(signs)
                house, slash, rest = text.partition("/")
                names = rest.split("/")
                wanted = house != "" and slash != "" and (rest == "" or "" not in names and len(names) <= 3)
                self.assertIs(is_address(text), wanted, text)


class HouseTest(unittest.TestCase):
    def test_house_of(self):
        for address, house in [("a/", "a"), ("a/b", "a"), ("a/b/c/d", "a"), ("abcdefgh/x", "abcdefgh"), ("0/a", "0")]:
            self.assertEqual(house_of(address), house)
            self.assertEqual(house_of(address=address), house)

    def test_refused(self):
        for thing in NO_ADDRESSES + NO_TEXTS:
            with self.assertRaises(BadAddress):
                house_of(thing)

    def test_refusal_is_under_the_base(self):
        with self.assertRaises(AsIfError):
            house_of("a")


class LinkedTest(unittest.TestCase):
    def test_examples_of_the_document(self):
        self.assertEqual(linked("a/b/c", "./d"), "a/b/d")
        self.assertEqual(linked("a/b/c", "./"), "a/b")
        self.assertEqual(linked("a/b/c", "../d"), "a/d")
        self.assertEqual(linked("a/b/c", "/"), "a/")

    def test_by_name(self):
        self.assertEqual(linked(link="./d", address="a/b/c"), "a/b/d")

    def test_addresses_lead_to_themselves(self):
        for page in ["a/", "a/b", "a/b/c", "a/b/c/d"]:
            for link in ADDRESSES + [page]:
                self.assertEqual(linked(page, link), link)

    def test_each_kind_with_none_to_four_names_behind(self):
        behind = ["", "w", "w/x", "w/x/y", "w/x/y/z"]
        tops = ["a/", "a/w", "a/w/x", "a/w/x/y", None]
        below_b = ["a/b", "a/b/w", "a/b/w/x", None, None]
        below_bc = ["a/b/c", "a/b/c/w", None, None, None]
        nothing = [None] * 5
        for page, here, above in [
            ("a/", tops, nothing), ("a/b", tops, nothing), ("a/b/c", below_b, tops), ("a/b/c/d", below_bc, below_b),
        ]:
            for at, names in enumerate(behind):
                with self.subTest(page=page, names=names):
                    self.assertEqual(linked(page, "/" + names), tops[at])
                    self.assertEqual(linked(page, "./" + names), here[at])
                    self.assertEqual(linked(page, "../" + names), above[at])

    def test_the_house_is_the_pages_own(self):
        self.assertEqual(linked("house1/b/c", "/d"), "house1/d")
        self.assertEqual(linked("house1/b/c", "./d"), "house1/b/d")
        self.assertEqual(linked("house1/b/c", "../"), "house1/")

    def test_no_names_behind(self):
        for page in ["a/", "a/b", "a/b/c", "a/b/c/d"]:
            for ahead in ["/", "./", "../"]:
                for rest in [
                    "/", "b/", "/b", "b//c", "B", "b/C", "b c", " ", " b", "b ", ".", "..", "./b", "../b", "b/.", "b/..",
                    "b" * 9, "b-c", "\n", "b\n", "#b", "b#c", "?", "\u00e4",
                ]:
                    with self.subTest(page=page, link=ahead + rest):
                        self.assertIsNone(linked(page, ahead + rest))

    def test_longest_names_behind(self):
        self.assertEqual(linked("a/b", "/" + "b" * 8), "a/" + "b" * 8)
        self.assertEqual(linked("a/b", "./" + "b" * 8), "a/" + "b" * 8)
        self.assertEqual(linked("a/b/c", "../" + "b" * 8), "a/" + "b" * 8)

    def test_links_of_no_kind(self):
        for page in ["a/", "a/b", "a/b/c", "a/b/c/d"]:
            for link in NO_ADDRESSES:
                if link.startswith("/") or link.startswith("./") or link.startswith("../"):
                    continue
                with self.subTest(page=page, link=link[:40]):
                    self.assertIsNone(linked(page, link))
            for link in ["", ".", "..", "d", ".d", "..d", ".../d", " /", " ./d", "#", "mailto:a", "A/b"]:
                with self.subTest(page=page, link=link):
                    self.assertIsNone(linked(page, link))

    def test_refused(self):
        for thing in NO_ADDRESSES + NO_TEXTS:
            for link in ["a/", "./d", "/", "", "no"]:
                with self.assertRaises(BadAddress):
                    linked(thing, link)
