"""Point [7]: questions, their words, and the pages that they fit."""

import random
import unittest

from asifread.errors import BadAddress, BadQuestion
from asifread.pages import parsed
from asifread.questions import fits, is_question, words_asked
from asifread.words import is_word, tokens
from others import DEEP, NO_TEXTS, Strange
from test_addresses import NO_ADDRESSES

A = ("word", "a")
B = ("word", "b")
C = ("word", "c")
KINDS = [
    A, ("title", "a"), ("row", ("a", "b")), ("near", 3, "a", "b"), ("house", "a"), ("not", A), ("all", (A, B)),
    ("any", (A, B)),
]
NO_QUESTIONS = [
    "", "word", "a", ("word", "a", "b"), ("word",), ("word", ""), ("word", "cats"), ("word", "A"), ("word", "a b"),
    ("word", "a" * 13), ("word", None), ("word", 1), ("word", ("a",)), ("word", ["a"]), ["word", "a"], ("Word", "a"),
    ("words", "a"), ("", "a"), (None, "a"), (1, "a"), (("word",), "a"), (["word"], "a"), ({}, "a"), (b"word", "a"),
    ("word", b"a"), ("title",), ("title", "cats"), ("title", ""), ("title", "a", "b"), ("title", ("a",)),
    ("row", ()), ("row", ("a",)), ("row", ("a",) * 5), ("row", ["a", "b"]), ("row", "ab"), ("row", ("a", "cats")),
    ("row", ("a", "")), ("row", ("a", 1)), ("row", ("a", None)), ("row", ("a", ("b",))), ("row", "a", "b"), ("row",),
    ("row", ("a", "b"), "c"), ("row", {"a": 1, "b": 2}),
    ("near", 0, "a", "b"), ("near", 10, "a", "b"), ("near", -1, "a", "b"), ("near", True, "a", "b"),
    ("near", False, "a", "b"), ("near", "3", "a", "b"), ("near", None, "a", "b"), ("near", 3.0, "a", "b"),
    ("near", (3,), "a", "b"), ("near", 10 ** 100, "a", "b"), ("near", 3, "a"), ("near", 3, "a", "b", "c"), ("near", 3),
    ("near", 3, "cats", "b"), ("near", 3, "a", "cats"), ("near", 3, "", "b"), ("near", 3, "a", None), ("near",),
    ("near", 3, ("a", "b")), ("near", "a", 3, "b"),
    ("house", ""), ("house", "A"), ("house", "a/"), ("house", "a" * 9), ("house", 1), ("house", None), ("house",),
    ("house", "a", "b"), ("house", ("a",)),
    ("not",), ("not", "a"), ("not", A, B), ("not", (A,)), ("not", None), ("not", ()), ("not", list(A)),
    ("not", ("word", "cats")), ("not", [A]),
    ("all",), ("all", ()), ("all", (A,)), ("all", (A,) * 7), ("all", [A, B]), ("all", A, B), ("all", A), ("all", (A, "b")),
    ("all", (A, None)), ("all", (A, ["word", "b"])), ("all", (A, ("word", "cats"))), ("all", {1: A, 2: B}), ("all", None),
    ("all", (A, B), C), ("all", "ab"),
    ("any",), ("any", ()), ("any", (A,)), ("any", (A,) * 7), ("any", [A, B]), ("any", A, B), ("any", A), ("any", (A, "b")),
    ("any", (A, ())), ("any", (A, ("near", 10, "a", "b"))), ("any", (A, B), C),
    (A,), (A, B), ((A, B),), (Strange(), "a"), (Strange(), A), (Strange(), (A, B)), ("word", Strange()), ("row", Strange()),
    (Strange(), 3, "a", "b"), ("near", Strange(), "a", "b"), ("house", Strange()),
]


def deep_not(deep):
    """A question so deep."""
    question = A
    for _ in range(deep - 1):
        question = ("not", question)
    return question


def leaves(many):
    """A question of so many of the first five kinds, 12 at least, only 3 deep."""
    return ("all", (("any", (A,) * 6), ("all", (A,) * (many - 6)))) if many <= 12 else ("all", (leaves(12), A))


class IsQuestionTest(unittest.TestCase):
    def test_each_kind(self):
        for question in KINDS:
            with self.subTest(question=question):
                self.assertIs(is_question(question), True)
                self.assertIs(is_question(thing=question), True)

    def test_no_questions(self):
        for at, thing in enumerate(NO_QUESTIONS + NO_TEXTS):
            with self.subTest(at=at):
                self.assertIs(is_question(thing), False)
                self.assertIs(is_question(("not", thing)), False)
                self.assertIs(is_question(("any", (A, thing))), False)
                self.assertIs(is_question(("any", (A, B, thing))), False)
                self.assertIs(is_question(("all", (A, ("not", thing), B))), False)
                self.assertIs(is_question(("all", (B, ("any", (A, thing)), A))), False)
                self.assertIs(is_question(("all", (thing, A))), False)

    def test_things_nested_very_deep(self):
        for thing in DEEP + [deep_not(3000)]:
            for around in [
                thing, (thing, "a"), ("word", thing), ("title", thing), ("row", thing), ("row", ("a", thing)),
                ("near", thing, "a", "b"), ("near", 3, thing, "b"), ("near", 3, "a", thing), ("house", thing),
                ("not", thing), ("all", thing), ("all", (A, thing)), ("any", thing), ("any", (thing, A)),
            ]:
                self.assertIs(is_question(around), False)
                with self.assertRaises(BadQuestion):
                    words_asked(around)
                with self.assertRaises(BadQuestion):
                    fits("a/", parsed("a"), around)

    def test_words(self):
        for word in ["a", "9", "bus", "glass", "a" * 12]:
            self.assertTrue(is_question(("word", word)))
            self.assertTrue(is_question(("title", word)))
            self.assertTrue(is_question(("row", ("a", word))))
            self.assertTrue(is_question(("near", 1, word, word)))

    def test_rows(self):
        for many in range(7):
            self.assertIs(is_question(("row", ("a",) * many)), 2 <= many <= 4)

    def test_near(self):
        for many in range(-2, 13):
            self.assertIs(is_question(("near", many, "a", "b")), 1 <= many <= 9)

    def test_houses(self):
        self.assertTrue(is_question(("house", "a" * 8)))
        self.assertTrue(is_question(("house", "cats")))

    def test_parts(self):
        for many in range(9):
            for kind in ["all", "any"]:
                self.assertIs(is_question((kind, (A,) * many)), 2 <= many <= 6)

    def test_leaves(self):
        for many in range(8, 13):
            self.assertTrue(is_question(leaves(many)), many)
        for leaf in KINDS[:5]:
            six = ("any", (leaf,) * 6)
            self.assertTrue(is_question(("all", (six, six))))
            self.assertFalse(is_question(("all", (six, six, leaf))))
            self.assertFalse(is_question(("all", (six, six, ("not", leaf)))))
        self.assertFalse(is_question(leaves(13)))
        self.assertFalse(is_question(("all", (("any", (A,) * 6),) * 6)))

    def test_a_row_and_a_near_count_once(self):
        six = ("any", (("row", ("a", "b", "c", "d")),) * 6)
        self.assertTrue(is_question(("all", (six, six))))

    def test_depth(self):
        for deep in range(1, 9):
            self.assertIs(is_question(deep_not(deep)), deep <= 5)
            self.assertIs(is_question(("all", (A, deep_not(deep)))), deep <= 4)
            self.assertIs(is_question(("any", (deep_not(deep), A))), deep <= 4)
        question = A
        for deep in range(2, 8):
            question = ("all" if deep % 2 else "any", (A, question))
            self.assertIs(is_question(question), deep <= 5)


class WordsAskedTest(unittest.TestCase):
    def test_each_kind(self):
        self.assertEqual(words_asked(("word", "a")), ["a"])
        self.assertEqual(words_asked(question=("title", "a")), ["a"])
        self.assertEqual(words_asked(("row", ("b", "a", "c"))), ["b", "a", "c"])
        self.assertEqual(words_asked(("near", 3, "b", "a")), ["b", "a"])
        self.assertEqual(words_asked(("house", "a")), [])
        self.assertEqual(words_asked(("not", A)), [])
        self.assertEqual(words_asked(("all", (B, A))), ["b", "a"])
        self.assertEqual(words_asked(("any", (B, A))), ["b", "a"])

    def test_unlike_ones_as_they_come(self):
        self.assertEqual(words_asked(("row", ("b", "a", "b"))), ["b", "a"])
        self.assertEqual(words_asked(("near", 3, "b", "b")), ["b"])
        self.assertEqual(words_asked(("all", (C, ("any", (A, C)), ("row", ("d", "a")), ("title", "b")))), list("cadb"))

    def test_none_beneath_a_not(self):
        self.assertEqual(words_asked(("all", (B, ("not", A)))), ["b"])
        self.assertEqual(words_asked(("all", (("not", A), B, A))), ["b", "a"])
        self.assertEqual(words_asked(("not", ("not", A))), [])
        self.assertEqual(words_asked(("any", (B, ("not", ("all", (A, ("row", ("c", "d")))))))), ["b"])

    def test_a_fresh_list_at_each_call(self):
        for question in KINDS:
            told = words_asked(question)
            wanted = list(told)
            told.append("spoilt")
            self.assertEqual(words_asked(question), wanted)

    def test_refused(self):
        for thing in NO_QUESTIONS + NO_TEXTS + [leaves(13), deep_not(6)]:
            with self.assertRaises(BadQuestion):
                words_asked(thing)


def plainly_fits(address, page, question):
    """Whether the question fits, reckoned another way."""
    kind = question[0]
    title = [word for word, _, _ in tokens(page.title)]
    body = [word for word, _, _ in tokens(page.body)]
    if kind == "word":
        return question[1] in title + body
    if kind == "title":
        return question[1] in title
    if kind == "row":
        row = " " + " ".join(question[1]) + " "
        return row in " " + " ".join(title) + " " or row in " " + " ".join(body) + " "
    if kind == "near":
        return any(
            first != last and abs(first - last) <= question[1] and body[first] == question[2] and body[last] == question[3]
            for first in range(len(body)) for last in range(len(body))
        )
    if kind == "house":
        return address.startswith(question[1] + "/")
    if kind == "not":
        return not plainly_fits(address, page, question[1])
    return (all if kind == "all" else any)([plainly_fits(address, page, part) for part in question[1]])


def some_question(chance, deep, words="abcd"):
    """A question of chance, at most so deep."""
    kind = chance.choice("word title row near house".split() + (["not", "all", "any"] * 3 if deep > 1 else []))
    if kind in ("word", "title"):
        return (kind, chance.choice(words))
    if kind == "row":
        return (kind, tuple(chance.choice(words) for _ in range(chance.randrange(2, 5))))
    if kind == "near":
        return (kind, chance.randrange(1, 10), chance.choice(words), chance.choice(words))
    if kind == "house":
        return (kind, chance.choice("ab"))
    if kind == "not":
        return (kind, some_question(chance, deep - 1, words))
    return (kind, tuple(some_question(chance, deep - 1, words) for _ in range(chance.choice((2, 2, 2, 3, 6)))))


class FitsTest(unittest.TestCase):
    def told(self, text, question, wanted, address="a/"):
        page = parsed(text)
        self.assertIs(fits(address, page, question), wanted, (text, question))
        self.assertIs(fits(address, page, ("not", question)), not wanted)
        self.assertIs(plainly_fits(address, page, question), wanted)

    def test_by_name(self):
        self.assertIs(fits(question=A, page=parsed("a"), address="a/"), True)

    def test_word(self):
        self.told("# The Cats\nsat", ("word", "cat"), True)
        self.told("# The\ncats sat", ("word", "cat"), True)
        self.told("# The\nsat", ("word", "cat"), False)
        self.told("catsat", ("word", "cat"), False)
        self.told("[cat](./dog)", ("word", "cat"), True)
        self.told("[cat](./dog)", ("word", "dog"), False)
        self.told("!cat\nsat", ("word", "cat"), False)
        self.told("", ("word", "cat"), False)

    def test_title(self):
        self.told("# cats\nsat", ("title", "cat"), True)
        self.told("# sat\ncats", ("title", "cat"), False)
        self.told("cats", ("title", "cat"), False)

    def test_row(self):
        self.told("the black cats sat", ("row", ("black", "cat")), True)
        self.told("black, CAT", ("row", ("black", "cat")), True)
        self.told("black\ncat", ("row", ("black", "cat")), True)
        self.told("cat black", ("row", ("black", "cat")), False)
        self.told("black big cat", ("row", ("black", "cat")), False)
        self.told("# black cat\nsat", ("row", ("black", "cat")), True)
        self.told("a b c d", ("row", tuple("abcd")), True)
        self.told("a b c", ("row", tuple("abcd")), False)
        self.told("b c d", ("row", tuple("abcd")), False)
        self.told("a a b", ("row", ("a", "b")), True)
        self.told("a b a b c", ("row", ("a", "b", "c")), True)
        self.told("a", ("row", ("a", "a")), False)
        self.told("a a", ("row", ("a", "a")), True)

    def test_row_across_the_titles_end(self):
        self.told("# the black\ncat sat", ("row", ("black", "cat")), False)
        self.told("# the\nblack cat sat", ("row", ("black", "cat")), True)

    def test_near(self):
        for many in range(1, 10):
            for first, last in ["xy", "yx"]:
                right = first + " o" * (many - 1) + " " + last
                beyond = first + " o" * many + " " + last
                for around in ["", "o o "]:
                    self.told(around + right, ("near", many, "x", "y"), True)
                    self.told(around + right + " o", ("near", many, "x", "y"), True)
                    self.told(around + beyond, ("near", many, "x", "y"), False)
                    self.told(around + beyond, ("near", min(many + 1, 9), "x", "y"), many < 9)

    def test_near_in_the_body_alone(self):
        self.told("# x y\no", ("near", 9, "x", "y"), False)
        self.told("# x\ny", ("near", 9, "x", "y"), False)
        self.told("# o\nx\ny", ("near", 1, "x", "y"), True)
        self.told("x", ("near", 9, "x", "y"), False)

    def test_near_of_a_word_with_itself(self):
        self.told("x", ("near", 9, "x", "x"), False)
        self.told("x x", ("near", 1, "x", "x"), True)
        self.told("x o x", ("near", 1, "x", "x"), False)
        self.told("x o x", ("near", 2, "x", "x"), True)
        self.told("# x\nx", ("near", 9, "x", "x"), False)

    def test_near_by_any_of_its_places(self):
        self.told("x o o o y o x", ("near", 2, "x", "y"), True)
        self.told("x o o o y o o x", ("near", 2, "x", "y"), False)

    def test_house(self):
        self.told("", ("house", "a"), True)
        self.told("", ("house", "a"), True, "a/b/c")
        self.told("", ("house", "a"), False, "ab/")
        self.told("", ("house", "ab"), False, "a/b")
        self.told("", ("house", "b"), False, "a/b")

    def test_parts(self):
        self.told("a b", ("all", (A, B)), True)
        self.told("a", ("all", (A, B)), False)
        self.told("b", ("all", (A, B)), False)
        self.told("a b", ("all", (A, B, C)), False)
        self.told("a", ("any", (A, B)), True)
        self.told("b", ("any", (A, B)), True)
        self.told("c", ("any", (A, B)), False)
        self.told("c", ("any", (A, B, C)), True)
        self.told("a", ("all", (A, ("not", B))), True)
        self.told("a b", ("all", (A, ("not", B))), False)
        self.told("a", ("not", ("not", A)), True)

    def test_hidden_pages_too(self):
        self.told("!hide\na", A, True)
        self.told("!hide\n!quiet\nb", A, False)

    def test_of_many_questions(self):
        chance = random.Random(8)
        asked = 0
        while asked < 3000:
            question = some_question(chance, 4)
            if not is_question(question):
                continue
            asked += 1
            page = parsed("# " + " ".join(chance.choices("abcdo", k=3)) + "\n" + " ".join(chance.choices("abcdooo", k=12)))
            address = chance.choice(["a/", "b/c", "c/d"])
            self.assertIs(fits(address, page, question), plainly_fits(address, page, question), question)

    def test_refused(self):
        page = parsed("a")
        for thing in NO_ADDRESSES + NO_TEXTS:
            with self.assertRaises(BadAddress):
                fits(thing, page, A)
        for thing in NO_QUESTIONS + NO_TEXTS + [leaves(13), deep_not(6)]:
            with self.assertRaises(BadQuestion):
                fits("a/", page, thing)

    def test_the_address_is_refused_first(self):
        for thing in NO_QUESTIONS[:5]:
            with self.assertRaises(BadAddress):
                fits("a", parsed("a"), thing)


class WordsOfTheTestsTest(unittest.TestCase):
    def test_they_are_words(self):
        self.assertTrue(all(is_word(word) for word in "abcdoxy"))
