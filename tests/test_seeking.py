"""Point [18]: the best ones of a view, and what was passed by; of point [2](a), that hits are just the best pages."""

import copy
import random
import unittest

from asifread.disk import Disk
from asifread.errors import BadAddress, BadCount, BadQuestion
from asifread.pages import parsed
from asifread.plain import best, counted, joined, weight, why
from asifread.questions import is_question, words_asked
from asifread.seeking import bound, fair, sought
from asifread.shelves import Shelf
from asifread.words import tokens
from others import DEEP, NO_TEXTS, Strange
from test_addresses import NO_ADDRESSES
from test_plain import BOOK, fields, some_book
from test_questions import A, NO_QUESTIONS, plainly_fits, some_question


class Alike:
    """A thing that may be a key, and calls itself equal to one text."""

    def __init__(self, text):
        self.text = text

    def __eq__(self, other):
        return other == self.text

    def __hash__(self):
        return hash(self.text)

    def __gt__(self, other):
        return True


CAT = ("word", "cat")
NO_COUNTS = [0, 11, -1, 10 ** 100, True, False, None, "1", "a", 1.0, (), (1,), [], [1], {}, {1: 1}]


def view_of(book, struck=()):
    """A View of this book, whose entries came in two parts and some that are in none."""
    shelf = Shelf(Disk())
    for at, address in enumerate(sorted(book, reverse=True)):
        shelf.give([(address, "elder cat dog", 1), (address, book[address], 2)])
        if at in (1, 2):
            shelf.seal()
    return shelf.view(shelf.moment(), struck=struck)


def worth_of(page, address, words, counts):
    return sum(weight(row) for row in why(address, page, words, counts))


def plain_hits(view, question, counts, k):
    """The hits, reckoned another way: all pages, sorted."""
    words = words_asked(question)
    rows = [
        (-worth_of(view.page(address), address, words, counts), address, why(address, view.page(address), words, counts))
        for address in view.shown() if plainly_fits(address, view.page(address), question)
    ]
    return [(address, -below, why_row) for below, address, why_row in sorted(rows)][:k]


def beyond(most, address, hits, k):
    """Whether a page of such a bound can't be a hit."""
    return len(hits) == k and (-most, address) > (-hits[-1][1], hits[-1][0])


class SoughtTest(unittest.TestCase):
    def look(self, view, question, counts, k):
        hits, passed = told = sought(view, question, counts, k)
        self.assertIsInstance(told, tuple)
        self.assertEqual(hits, plain_hits(view, question, counts, k))
        self.assertIsInstance(hits, list)
        self.assertIsInstance(passed, dict)
        words = words_asked(question)
        for address, most in passed.items():
            self.assertIn(address, view.shown())
            self.assertNotIn(address, [hit[0] for hit in hits])
            self.assertGreaterEqual(most, worth_of(view.page(address), address, words, counts))
            self.assertTrue(beyond(most, address, hits, k))
        if len(hits) < k:
            self.assertEqual(passed, {})
        self.assertIs(fair(view, question, counts, k, told), True)
        return told

    def test_as_best_tells(self):
        view = view_of(BOOK)
        for k in range(1, 11):
            for question in [CAT, ("word", "dog"), ("title", "cat"), ("house", "b"), ("not", CAT), ("word", "none")]:
                hits, passed = self.look(view, question, view.counts(), k)
                self.assertEqual(hits, best(BOOK, question, k))
                struck = view_of(BOOK, ["a/", "c"])
                hits, passed = self.look(struck, question, struck.counts(), k)
                self.assertEqual(hits, best(BOOK, question, k, struck=["a/", "c"]))

    def test_by_name(self):
        view = view_of(BOOK)
        told = sought(k=1, counts=view.counts(), question=CAT, view=view)
        self.assertEqual(told[0], best(BOOK, CAT, 1))

    def test_kinds(self):
        view = view_of(BOOK)
        hits, passed = sought(view, CAT, view.counts(), 2)
        self.assertIsInstance(hits[0], tuple)
        self.assertIsInstance(hits[0][2], list)
        self.assertIsInstance(hits[0][2][0], tuple)

    def test_of_no_pages(self):
        view = Shelf(Disk()).view(0)
        self.assertEqual(sought(view, CAT, view.counts(), 1), ([], {}))
        self.assertEqual(sought(view, CAT, counted(BOOK), 10), ([], {}))

    def test_pages_that_cannot_be_hits_are_passed(self):
        book = {f"a{at}/": "dog" for at in range(20)}
        book.update({"z/": "cat", "z/b": "# cat\ncat cat", "z/c": "cat cat cat"})
        view = view_of(book)
        for k in (1, 2, 3):
            hits, passed = self.look(view, CAT, view.counts(), k)
            # Those without the word are worth nothing, and k are worth more.
            self.assertGreaterEqual(len(passed), 20)
        self.assertEqual(self.look(view, CAT, view.counts(), 4)[1], {})

    def test_like_worths_and_bounds(self):
        book = {f"a{at}/": "cat" for at in range(14)}
        view = view_of(book)
        for k in range(1, 11):
            hits, passed = self.look(view, CAT, view.counts(), k)
            self.assertEqual([hit[0] for hit in hits], sorted(book)[:k])
            self.assertEqual(sorted(passed), sorted(book)[k:])

    def test_long_bodies_have_bounds_beyond_their_worths(self):
        book = {"a/": "cat " + "x " * 300, "b/": "cat cat " + "x " * 300, "c/": "cat", "d/": "cat x"}
        view = view_of(book)
        for k in (1, 2, 3, 4, 5):
            hits, passed = self.look(view, CAT, view.counts(), k)
            self.assertEqual(hits, best(book, CAT, k))

    def test_by_counts_of_more_pages(self):
        other = {"d/": "dog [x](c/z) [x](a/)", "e/": "# dogs\ndog [x](c/z)", "f/": "mouse", "g/": "dog"}
        view = view_of(BOOK)
        counts = joined([view.counts(), counted(other)])
        question = ("any", (CAT, ("word", "dog")))
        hits, passed = self.look(view, question, counts, 3)
        self.assertNotEqual([hit[1] for hit in hits], [hit[1] for hit in best(BOOK, question, 3)])
        whole = [hit for hit in best({**BOOK, **other}, question, 10) if hit[0] in BOOK]
        self.assertEqual(sought(view, question, counts, 10)[0], whole)

    def test_what_is_handed_in_stays(self):
        view = view_of(BOOK)
        counts = view.counts()
        before = fields(counts)
        hits, passed = sought(view, CAT, counts, 1)
        wanted = copy.deepcopy((hits, passed))
        hits[0][2].clear()
        hits.clear()
        passed.clear()
        self.assertEqual(fields(counts), before)
        self.assertEqual(sought(view, CAT, counts, 1), wanted)

    def test_refused(self):
        view = view_of(BOOK)
        for thing in NO_QUESTIONS + NO_TEXTS:
            for k in [1, 0, None]:
                with self.assertRaises(BadQuestion):
                    sought(view, thing, view.counts(), k)
                with self.assertRaises(BadQuestion):
                    fair(view, thing, view.counts(), k, ([], {}))
        for k in NO_COUNTS:
            for some in [view, Shelf(Disk()).view(0)]:
                with self.assertRaises(BadCount):
                    sought(some, A, some.counts(), k)
                with self.assertRaises(BadCount):
                    fair(some, A, some.counts(), k, ([], {}))

    def test_of_many_books(self):
        chance = random.Random(81)
        asked = passed_by = 0
        while asked < 600:
            question = some_question(chance, 4)
            if not is_question(question):
                continue
            asked += 1
            book, other = some_book(chance, chance.randrange(11)), some_book(chance, 3)
            struck = chance.sample(["a", "a/b", "b/x/", "c/", "z"], chance.choice((0, 0, 1, 2)))
            k = chance.choice((1, 1, 2, 3, 10))
            view = view_of(book, struck)
            hits, passed = self.look(view, question, view.counts(), k)
            self.assertEqual(hits, best(book, question, k, struck=struck))
            passed_by += len(passed)
            more = joined([view.counts(), counted({"x" + address: text for address, text in other.items()})])
            self.look(view, question, more, k)
        self.assertGreater(passed_by, 100)


class BoundTest(unittest.TestCase):
    def test_by_hand(self):
        counts = counted({"a/": "cat", "b/": "dog [x](a/)", "c/": "x [x](a/)"})
        # Cats stand in one of three: rarity 61.
        self.assertEqual(bound(["cat"], counts, "a/", {"cat": (1, 0)}), 61 * 40 + 50)
        self.assertEqual(bound(["cat"], counts, "b/", {"cat": (0, 1)}), 61 * 60)
        self.assertEqual(bound(["cat"], counts, "b/", {"cat": (2, 3)}), 61 * (60 + 120))
        self.assertEqual(bound(["cat", "dog"], counts, "a/", {"dog": (1, 0), "cat": (1, 0)}), 61 * 80 + 50)
        self.assertEqual(bound(("dog", "cat"), counts, "a/", {"dog": (1, 0), "cat": (3, 1)}), 61 * (40 + 72 + 60) + 50)
        self.assertEqual(bound(found={"x": (1, 1)}, address="c/", counts=counts, words=["x"]), 31 * 100)

    def test_words_that_do_not_stand_there(self):
        counts = counted(BOOK)
        self.assertEqual(bound(["cat", "none", "dog"], counts, "c/z", {"dog": (1, 0)}), bound(["dog"], counts, "c/z", {"dog": (1, 0)}))
        self.assertEqual(bound(["none"], counts, "c/z", {}), 0)
        self.assertEqual(bound(["none"], counts, "c/z", {"none": (1, 0)}), 91 * 40)
        self.assertEqual(bound([], counts, "a/y", {}), 50)

    def test_addresses_to_which_nothing_leads(self):
        self.assertEqual(bound([], counted(BOOK), "z/", {}), 0)
        self.assertEqual(bound(["cat"], counted({}), "z/", {"cat": (1, 1)}), 100)

    def test_its_worth_with_length_taken_as_0(self):
        chance = random.Random(82)
        for _ in range(500):
            book = some_book(chance, 6)
            counts = counted(book)
            words = chance.sample(["a", "b", "c", "d", "none"], chance.randrange(5))
            address = chance.choice(list(book))
            page = parsed(book[address])
            body = [word for word, _, _ in tokens(page.body)]
            title = [word for word, _, _ in tokens(page.title)]
            found = {word: (body.count(word), title.count(word)) for word in words if word in body + title}
            rows = why(address, page, words, counts)
            short = [row if row[0] == "links" else (row[0], row[1], row[2], 0, row[4]) for row in rows]
            told = bound(words, counts, address, found)
            self.assertEqual(told, sum(map(weight, short)))
            self.assertGreaterEqual(told, sum(map(weight, rows)))

    def test_no_addresses(self):
        for thing in NO_ADDRESSES + NO_TEXTS:
            with self.assertRaises(BadAddress):
                bound(["cat"], counted(BOOK), thing, {"cat": (1, 0)})

    def test_what_is_handed_in_stays(self):
        counts, words, found = counted(BOOK), ["cat", "dog"], {"cat": (1, 0)}
        bound(words, counts, "a/", found)
        self.assertEqual((fields(counts), words, found), (fields(counted(BOOK)), ["cat", "dog"], {"cat": (1, 0)}))


class FairTest(unittest.TestCase):
    BOOK = {"a/": "cat", "b/": "cat cat", "c/": "# cat", "d/": "cat " + "x " * 300, "e/": "dog", "f/": "!hide\ncat", "s/": "cat"}

    def setUp(self):
        self.view = view_of(self.BOOK, ["s"])
        self.counts = self.view.counts()
        self.hits = plain_hits(self.view, CAT, self.counts, 2)

    def fair(self, told):
        return fair(self.view, CAT, self.counts, 2, told)

    def test_hits_alone(self):
        self.assertEqual([hit[0] for hit in self.hits], ["b/", "c/"])
        self.assertIs(self.fair((self.hits, {})), True)
        self.assertIs(fair(told=(self.hits, {}), k=2, counts=self.counts, question=CAT, view=self.view), True)
        self.assertIs(self.fair(sought(self.view, CAT, self.counts, 2)), True)

    def test_tuples_for_lists(self):
        hits = tuple((address, worth, tuple(rows)) for address, worth, rows in self.hits)
        self.assertIs(self.fair((hits, {})), True)
        self.assertIs(self.fair((list(hits), {})), True)
        self.assertIs(self.fair((tuple(self.hits), {})), True)
        self.assertIs(fair(self.view, ("word", "none"), self.counts, 2, ((), {})), True)
        self.assertIs(fair(self.view, ("word", "none"), self.counts, 2, ([], {})), True)

    def test_lists_for_tuples(self):
        address, worth, rows = self.hits[0]
        for told in [
            [self.hits, {}], ([list(self.hits[0]), self.hits[1]], {}), ([(address, worth, [list(row) for row in rows]), self.hits[1]], {}),
            (self.hits, []), (self.hits, ()), (self.hits, [("e/", 0)]), (self.hits, (("e/", 0),)), {0: self.hits, 1: {}},
        ]:
            self.assertIs(self.fair(told), False)

    def test_other_hits(self):
        one, other = self.hits
        third = plain_hits(self.view, CAT, self.counts, 3)[2]
        for hits in [
            [], [one], [other], [other, one], [one, one], [one, other, third], [one, third], [third, one, other], [one, other, other],
            [None, other], [one, None], [one[0], one[1]], [one[:2], other], [one + (1,), other], one, (one, other, ()), None, {},
            {one[0]: one, other[0]: other},
        ]:
            self.assertIs(self.fair((hits, {})), False)

    def test_hits_with_a_piece_otherwise(self):
        (address, worth, rows), other = self.hits
        word, c, t, length, rare = rows[0]
        for hit in [
            ("a/", worth, rows), ("", worth, rows), (None, worth, rows), (address, worth + 1, rows), (address, worth - 1, rows),
            (address, -worth, rows), (address, None, rows), (address, str(worth), rows), (address, float(worth), rows),
            (address, worth, []), (address, worth, rows[:1]), (address, worth, rows[1:]), (address, worth, rows[::-1]),
            (address, worth, rows + rows[1:]), (address, worth, None), (address, worth, dict(enumerate(rows))),
            (address, worth, [("dog", c, t, length, rare), rows[1]]), (address, worth, [(word, c + 1, t, length, rare), rows[1]]),
            (address, worth, [(word, c, t + 1, length, rare), rows[1]]), (address, worth, [(word, c, t, length + 1, rare), rows[1]]),
            (address, worth, [(word, c, t, length, rare - 1), rows[1]]), (address, worth, [(word, c, False, length, rare), rows[1]]),
            (address, worth, [(word, c, t, length), rows[1]]), (address, worth, [rows[0], ("links", 1)]),
            (address, worth, [rows[0], ("links", False)]), (address, worth, [rows[0], ("links", 0.0)]), (address, worth, [rows[0], ("links",)]),
            (address, worth, [rows[0], ("link", 0)]), (address, worth, [rows[0], None]), (address, worth, [rows[0], Strange()]),
            (Strange(), worth, rows), (address, Strange(), rows), (address, worth, Strange()),
        ]:
            self.assertIs(self.fair(([hit, other], {})), False)
        self.assertIs(self.fair(([(address, worth, rows), other], {})), True)

    def test_truths(self):
        view = view_of({"a/": "dog", "b/": "[x](a/)"})
        question = ("house", "a")
        for hits, wanted in [
            ([("a/", 25, [("links", 1)])], True), ([("a/", 25, [("links", True)])], False), ([("a/", True, [("links", 1)])], False),
        ]:
            self.assertIs(fair(view, question, view.counts(), 1, (hits, {})), wanted)
        hits = [("b/", 0, [("links", 0)])]
        self.assertIs(fair(view, ("house", "b"), view.counts(), 1, (hits, {})), True)
        self.assertIs(fair(view, ("house", "b"), view.counts(), 1, ([("b/", False, [("links", 0)])], {})), False)

    def test_bounds(self):
        last, most, _ = self.hits[1]
        self.assertEqual(last, "c/")
        words = ["cat"]
        worths = {address: worth_of(self.view.page(address), address, words, self.counts) for address in self.view.shown()}
        for address, beyond_last in [("a/", False), ("d/", True), ("e/", True)]:
            worth = worths[address]
            self.assertLess(worth, most)
            for told, wanted in [
                (worth, True), (worth + 1, True), (most - 1, True), (most, beyond_last), (most + 1, False), (worth - 1, False),
                (-1, False), (10 ** 100, False),
            ]:
                self.assertIs(self.fair((self.hits, {address: told})), wanted, (address, told))
                self.assertIs(self.fair((self.hits, {"d/": worths["d/"], address: told})), wanted)
        self.assertIs(self.fair((self.hits, {"e/": 5, "a/": most - 1, "d/": most})), True)

    def test_bounds_of_other_kinds(self):
        self.assertIs(self.fair((self.hits, {"e/": 0})), True)
        for most in [None, True, False, "0", 0.0, 1.5, (), (0,), [0], {}, b"", Strange(), object()] + DEEP:
            self.assertIs(self.fair((self.hits, {"e/": most})), False)
            self.assertIs(self.fair((self.hits, {"e/": 0, "a/": most})), False)

    def test_bounds_of_addresses_that_are_not_shown(self):
        # f/ is hidden, s/ struck.
        for address in ["f/", "s/", "z/", "", "a", "e", None, 1, True, ("e/",), b"e/", object(), 1.5, Alike("e/")]:
            self.assertIs(self.fair((self.hits, {address: 0})), False)
            self.assertIs(self.fair((self.hits, {address: 1})), False)
            self.assertIs(self.fair((self.hits, {"d/": self.hits[1][1] - 1, address: 0})), False)

    def test_bounds_of_hits(self):
        for address, worth, _ in self.hits:
            for most in [worth, worth + 1, worth - 1, 0]:
                self.assertIs(self.fair((self.hits, {address: most})), False)

    def test_fewer_than_k_hits(self):
        hits = plain_hits(self.view, CAT, self.counts, 10)
        self.assertEqual(len(hits), 4)
        for k, wanted in [(4, True), (5, False), (10, False)]:
            self.assertIs(fair(self.view, CAT, self.counts, k, (hits, {})), True)
            self.assertIs(fair(self.view, CAT, self.counts, k, (hits, {"e/": 0})), wanted)

    def test_of_anything(self):
        for thing in NO_TEXTS + DEEP + ["", "a", self.hits, self.hits[0]]:
            for told in [
                thing, (thing,), (thing, thing), (thing, {}), (self.hits, thing), (self.hits, {}, thing), ([thing], {}),
                ([thing, thing], {}), ([self.hits[0], thing], {}), ([("b/", self.hits[0][1], thing), self.hits[1]], {}),
                ([("b/", self.hits[0][1], [thing, ("links", 0)]), self.hits[1]], {}),
            ]:
                passed = isinstance(told, tuple) and len(told) == 2 and isinstance(told[1], dict) and len(told[1]) == 0
                wanted = passed and told[0] is self.hits
                self.assertIs(self.fair(told), wanted)
        self.assertIs(self.fair((Strange(), Strange())), False)

    def test_what_is_told_stays(self):
        told = sought(self.view, CAT, self.counts, 2)
        before = copy.deepcopy(told)
        self.fair(told)
        self.assertEqual(told, before)

    def test_of_another_question_or_counts(self):
        told = sought(self.view, CAT, self.counts, 2)
        self.assertIs(fair(self.view, ("word", "dog"), self.counts, 2, told), False)
        self.assertIs(fair(self.view, CAT, joined([self.counts, counted({"z/": "dog"})]), 2, told), False)
        self.assertIs(fair(self.view, CAT, self.counts, 3, told), False)
        self.assertIs(fair(self.view, CAT, self.counts, 1, told), False)
