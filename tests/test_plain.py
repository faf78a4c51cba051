"""Points [9] and [10]: counts, why, weight, worth and the best."""

import copy
import random
import unittest

from asifread.addresses import linked
from asifread.errors import BadAddress, BadCount, BadQuestion
from asifread.pages import parsed
from asifread.plain import Counts, best, counted, joined, weight, why
from asifread.questions import is_question, words_asked
from asifread.words import tokens
from others import NO_TEXTS
from test_addresses import NO_ADDRESSES
from test_questions import A, NO_QUESTIONS, plainly_fits, some_question

BOOK = {
    "b/x": "# Black cats\nA cat [sat](a/y) here. [Home](/)\n",
    "a/": "cats and dogs [x](/y) [x](b/x) [x](c/none)",
    "a/y": "!quiet\n# Quiet dogs\nno links: [x](b/x) [x](c/none)",
    "b/": "!hide\nhidden cats [x](a/) [x](c/none)",
    "c/z": "dogs [x](a/y) [x](a/y) [x](c/none)",
}


def fields(counts):
    return counts.pages, list(counts.words.items()), list(counts.links.items())


def plainly_counted(book, struck):
    """The fields of Counts, reckoned another way."""
    shown = {
        address: parsed(text) for address, text in book.items()
        if not parsed(text).hidden and not address.startswith(tuple(struck))
    }
    stand = [
        {word for word, _, _ in tokens(page.title)} | {word for word, _, _ in tokens(page.body)} for page in shown.values()
    ]
    words = {word: sum(word in some for some in stand) for word in sorted(set().union(*stand))}
    leads = {
        (linked(address, link), address.split("/")[0])
        for address, page in shown.items() if not page.quiet for link in page.links
    }
    links = {
        led: tuple(sorted(house for target, house in leads if target == led and led.split("/")[0] != house))
        for led in sorted({target for target, house in leads if target is not None})
    }
    return len(shown), list(words.items()), [(led, houses) for led, houses in links.items() if houses]


def plainly_best(book, question, k, struck):
    """The best, reckoned another way."""
    pages, words, links = plainly_counted(book, struck)
    words, links = dict(words), dict(links)
    hits = []
    for address, text in book.items():
        page = parsed(text)
        if page.hidden or address.startswith(tuple(struck)) or not plainly_fits(address, page, question):
            continue
        title = [word for word, _, _ in tokens(page.title)]
        body = [word for word, _, _ in tokens(page.body)]
        rows = []
        worth = 0
        for word in words_asked(question):
            c, t = body.count(word), title.count(word)
            if c or t:
                rare = 1 + (90 * (pages - words[word])) // pages
                rows.append((word, c, t, len(body), rare))
                worth += rare * ((120 * c) // (c + 2 + len(body) // 16) + 60 * (t if t < 2 else 2))
        many = len(links.get(address, ()))
        hits.append((-(worth + 25 * many), address, rows + [("links", many)]))
    return [(address, -below, rows) for below, address, rows in sorted(hits)][:k]


def some_book(chance, many):
    """A book of chance."""
    addresses = ["a/", "a/b", "a/b/c", "b/", "b/x", "b/x/y", "c/", "c/z", "ca/", "d/"]
    book = {}
    for address in chance.sample(addresses, many):
        rows = chance.choices(["!hide", "!quiet", "!x"], weights=(1, 1, 8), k=chance.choice((0, 0, 1)))
        rows += ["# " + " ".join(chance.choices("abcdo", k=chance.randrange(4)))] * chance.choice((0, 1))
        links = chance.choices(addresses + ["./x", "../", "/y", "no"], k=chance.randrange(4))
        body = chance.choices("abcdooo", k=chance.choice((0, 1, 5, 20, 40))) + ["[a](" + link + ")" for link in links]
        chance.shuffle(body)
        book[address] = "\n".join(rows + [" ".join(body)])
    return book


class CountedTest(unittest.TestCase):
    def test_pages(self):
        self.assertEqual(counted({}).pages, 0)
        self.assertEqual(counted(book=BOOK).pages, 4)
        self.assertEqual(counted(BOOK, struck=["b/"]).pages, 3)
        self.assertEqual(counted(BOOK, struck=["a/"]).pages, 2)
        self.assertEqual(counted(BOOK, struck=["a/y"]).pages, 3)
        self.assertEqual(counted(BOOK, struck=["a/y", "c", "z"]).pages, 2)
        self.assertEqual(counted(BOOK, struck=["a/yy"]).pages, 4)
        self.assertEqual(counted(BOOK, struck=["/y", "x"]).pages, 4)

    def test_an_empty_book(self):
        counts = counted({})
        self.assertIsInstance(counts, Counts)
        self.assertEqual(fields(counts), (0, [], []))
        self.assertEqual(sorted(vars(counts)), ["links", "pages", "words"])

    def test_words(self):
        self.assertEqual(list(counted(BOOK).words.items()), [
            ("a", 1), ("and", 1), ("black", 1), ("cat", 2), ("dog", 3), ("here", 1), ("home", 1), ("link", 1), ("no", 1),
            ("quiet", 1), ("sat", 1), ("x", 3),
        ])

    def test_each_page_counts_a_word_once(self):
        book = {"a/": "# cats cat\ncats cat", "b/": "# cat", "c/": "cat", "d/": "dog"}
        self.assertEqual(list(counted(book).words.items()), [("cat", 3), ("dog", 1)])

    def test_hidden_and_struck_pages_count_for_no_word(self):
        self.assertNotIn("hidden", counted(BOOK).words)
        self.assertEqual(counted(BOOK, struck=["c/"]).words["dog"], 2)
        self.assertNotIn("black", counted(BOOK, struck=("b/x",)).words)

    def test_links(self):
        self.assertEqual(list(counted(BOOK).links.items()), [("a/y", ("b", "c")), ("b/x", ("a",)), ("c/none", ("a",))])

    def test_links_of_other_houses_alone(self):
        book = {"a/b": "[x](/c) [x](a/d) [x](ab/)", "ab/": "[x](a/c) [x](ab/c)"}
        self.assertEqual(list(counted(book).links.items()), [("a/c", ("ab",)), ("ab/", ("a",))])

    def test_each_house_once_and_rising(self):
        book = {
            "z/": "[x](a/) [x](a/)", "z/b": "[x](a/)", "c/": "[x](a/)", "c1/": "[x](a/)", "b/y": "[x](a/)", "b/x": "[x](a/)",
        }
        self.assertEqual(counted(book).links, {"a/": ("b", "c", "c1", "z")})

    def test_addresses_that_are_struck_are_still_led_to(self):
        self.assertEqual(counted({"a/": "[x](b/)", "b/": "cat"}, struck=["b/"]).links, {"b/": ("a",)})
        self.assertEqual(counted({"a/": "[x](b/)", "b/": "!hide"}).links, {"b/": ("a",)})

    def test_struck_pages_lead_nowhere(self):
        self.assertEqual(counted({"a/": "[x](b/)", "b/": "[x](a/)"}, struck=["b"]).links, {"b/": ("a",)})

    def test_struck_as_a_list_or_a_tuple(self):
        for struck in [["b/"], ("b/",), [], (), ["a/y", "b/"], ("a/y", "b/"), ["a/y", "a/y"]]:
            self.assertEqual(fields(counted(BOOK, struck=struck)), plainly_counted(BOOK, struck))

    def test_prefixes_of_all_lengths(self):
        address = "a" * 8 + "/" + "b" * 8 + "/" + "c" * 8 + "/" + "d" * 8
        self.assertEqual(len(address), 35)
        for many in range(1, 36):
            self.assertEqual(counted({address: "cat"}, struck=[address[:many]]).pages, 0)
        self.assertEqual(counted({address: "cat"}, struck=["a" * 9]).pages, 1)
        self.assertEqual(counted({address: "cat"}, struck=[address + "e"]).pages, 1)

    def test_keys_rise_however_the_book_is_ordered(self):
        turned = {address: BOOK[address] for address in reversed(list(BOOK))}
        self.assertEqual(fields(counted(turned)), fields(counted(BOOK)))

    def test_struck_by_name_alone(self):
        with self.assertRaises(TypeError):
            counted(BOOK, ["a/"])

    def test_the_book_stays_and_may_be_changed_behind(self):
        book, struck = dict(BOOK), ["c/"]
        counts = counted(book, struck=struck)
        told = fields(counts)
        self.assertEqual((list(book.items()), struck), (list(BOOK.items()), ["c/"]))
        book.clear()
        struck.clear()
        self.assertEqual(fields(counts), told)

    def test_no_addresses(self):
        for thing in [thing for thing in NO_ADDRESSES if thing is not None] + [None, 1, ("a/",)]:
            for text in ["cat", "!hide"]:
                with self.assertRaises(BadAddress):
                    counted({"a/": "cat", thing: text})

    def test_of_many_books(self):
        chance = random.Random(12)
        for _ in range(800):
            book = some_book(chance, chance.randrange(11))
            struck = chance.sample(["a", "a/b", "b/x/", "c/", "c", "ca/", "z", "d/d"], chance.choice((0, 0, 1, 2)))
            self.assertEqual(fields(counted(book, struck=struck)), plainly_counted(book, struck))


class JoinedTest(unittest.TestCase):
    def test_none(self):
        self.assertEqual(fields(joined([])), (0, [], []))
        self.assertIsInstance(joined(()), Counts)

    def test_one(self):
        counts = counted(BOOK)
        told = joined([counts])
        self.assertEqual(fields(told), fields(counts))
        told.words.clear()
        told.links.clear()
        self.assertEqual(fields(counts), plainly_counted(BOOK, ()))

    def test_several(self):
        some = [counted({address: text}) for address, text in BOOK.items()]
        before = [fields(counts) for counts in some]
        self.assertEqual(fields(joined(some)), fields(counted(BOOK)))
        self.assertEqual(fields(joined(some=tuple(reversed(some)))), fields(counted(BOOK)))
        self.assertEqual([fields(counts) for counts in some], before)

    def test_words_and_links_of_two(self):
        one = counted({"b/": "cat [x](z/)", "c/x": "[x](z/) [x](y/)"})
        other = counted({"a/": "ant cat [x](z/)", "c/y": "[x](z/) [x](b/)"})
        self.assertEqual(fields(joined([one, other])), (
            4, [("ant", 1), ("cat", 2), ("x", 4)], [("b/", ("c",)), ("y/", ("c",)), ("z/", ("a", "b", "c"))],
        ))

    def test_of_no_pages(self):
        self.assertEqual(fields(joined([counted({}), counted(BOOK), counted({})])), fields(counted(BOOK)))

    def test_of_many_books(self):
        chance = random.Random(13)
        for _ in range(400):
            book = some_book(chance, chance.randrange(11))
            parts = [{}, {}, {}]
            for address, text in book.items():
                chance.choice(parts)[address] = text
            self.assertEqual(fields(joined([counted(part) for part in parts])), fields(counted(book)))


class WhyTest(unittest.TestCase):
    def test_words_in_body_and_title(self):
        page = parsed("# Cat cats cat\ncats bird cat here")
        counts = counted({"a/": "cat", "b/": "bird cat", "c/": "x", "d/": "y", "e/": "[x](z/)"})
        self.assertEqual(why("z/", page, ["cat", "bird", "here", "none"], counts), [
            ("cat", 2, 3, 4, 1 + 90 * 3 // 5), ("bird", 1, 0, 4, 1 + 90 * 4 // 5), ("here", 1, 0, 4, 91), ("links", 1),
        ])

    def test_in_one_of_them(self):
        counts = counted({"a/": "cat", "b/": "dog"})
        self.assertEqual(why("a/", parsed("# cat\nx"), ["cat"], counts), [("cat", 0, 1, 1, 46), ("links", 0)])
        self.assertEqual(why("a/", parsed("# x\ncat"), ["cat"], counts), [("cat", 1, 0, 1, 46), ("links", 0)])
        self.assertEqual(why("a/", parsed("# x\nx"), ["cat"], counts), [("links", 0)])

    def test_no_words(self):
        self.assertEqual(why("a/", parsed("cat"), [], counted(BOOK)), [("links", 0)])

    def test_in_the_order_of_the_words(self):
        page = parsed("a b c")
        for words in [["c", "a", "b"], ("c", "a", "b")]:
            told = why("a/", page, words, counted({}))
            self.assertEqual([row[0] for row in told], ["c", "a", "b", "links"])
            self.assertIsInstance(told, list)

    def test_by_name(self):
        told = why(counts=counted({}), words=["a"], page=parsed("a"), address="a/")
        self.assertEqual(told, [("a", 1, 0, 1, 1), ("links", 0)])

    def test_a_body_of_no_tokens(self):
        self.assertEqual(why("a/", parsed("# cat\n- !"), ["cat"], counted({"a/": "cat"})), [("cat", 0, 1, 0, 1), ("links", 0)])

    def test_rarity(self):
        for pages in range(1, 12):
            for many in range(pages + 1):
                book = {f"a{at}/": "cat" if at < many else "dog" for at in range(pages)}
                told = why("z/", parsed("cat"), ["cat"], counted(book))
                self.assertEqual(told[0], ("cat", 1, 0, 1, 1 + (90 * (pages - many)) // pages))

    def test_counts_of_no_pages(self):
        page = parsed("# cat\ncat dog")
        for counts in [counted({}), counted({"a/": "!hide\ncat"}), joined([])]:
            self.assertEqual(why("a/", page, ["cat", "dog"], counts), [("cat", 1, 1, 2, 1), ("dog", 1, 0, 2, 1), ("links", 0)])

    def test_links(self):
        counts = counted({"b/": "[x](a/)", "b/c": "[x](a/)", "c/": "[x](a/) [x](d/e)", "a/b": "[x](a/)"})
        self.assertEqual(why("a/", parsed(""), [], counts), [("links", 2)])
        self.assertEqual(why("d/e", parsed(""), [], counts), [("links", 1)])
        self.assertEqual(why("d/", parsed(""), [], counts), [("links", 0)])

    def test_hidden_and_quiet_pages_too(self):
        self.assertEqual(why("a/", parsed("!hide\n!quiet\ncat"), ["cat"], counted({})), [("cat", 1, 0, 1, 1), ("links", 0)])

    def test_what_is_handed_in_stays(self):
        counts, words, page = counted(BOOK), ["dog", "cat"], parsed(BOOK["a/"])
        before = fields(counts), list(words), copy.deepcopy(vars(page))
        told = why("a/", page, words, counts)
        told.clear()
        self.assertEqual((fields(counts), words, vars(page)), before)
        self.assertEqual(len(why("a/", page, words, counts)), 3)

    def test_refused(self):
        for thing in NO_ADDRESSES + NO_TEXTS:
            with self.assertRaises(BadAddress):
                why(thing, parsed("cat"), ["cat"], counted({}))


class WeightTest(unittest.TestCase):
    def test_by_hand(self):
        for row, wanted in [
            (("cat", 1, 0, 1, 1), 40), (("cat", 1, 0, 15, 1), 40), (("cat", 1, 0, 16, 1), 30), (("cat", 1, 0, 31, 1), 30),
            (("cat", 1, 0, 32, 1), 24), (("cat", 2, 0, 10, 1), 60), (("cat", 3, 0, 10, 1), 72), (("cat", 5, 0, 10, 1), 85),
            (("cat", 4, 0, 100, 1), 40), (("cat", 100, 0, 300, 1), 100),
            (("cat", 0, 1, 0, 1), 60), (("cat", 0, 2, 0, 1), 120), (("cat", 0, 3, 0, 1), 120), (("cat", 0, 9, 50, 1), 120),
            (("cat", 1, 1, 1, 1), 100), (("cat", 1, 1, 1, 10), 1000), (("cat", 5, 3, 10, 91), 91 * 205),
            (("cat", 5, 0, 10, 7), 595), (("cat", 0, 0, 0, 91), 0),
            (("links", 0), 0), (("links", 1), 25), (("links", 7), 175), (("link", 1, 0, 1, 1), 40),
        ]:
            with self.subTest(row=row):
                self.assertEqual(weight(row), wanted)
                self.assertEqual(weight(row=row), wanted)


class BestTest(unittest.TestCase):
    def test_by_hand(self):
        told = best(BOOK, ("word", "cat"), 5)
        # Four are shown, cats stand in two of them: rarity 46. b/x has one in its title and one in its body.
        self.assertEqual(told, [
            ("b/x", 46 * (40 + 60) + 25, [("cat", 1, 1, 5, 46), ("links", 1)]),
            ("a/", 46 * 40, [("cat", 1, 0, 6, 46), ("links", 0)]),
        ])

    def test_by_name(self):
        told = best(k=1, question=("word", "cat"), book=BOOK, struck=["b/"])
        self.assertEqual(told, [("a/", 61 * 40, [("cat", 1, 0, 6, 61), ("links", 0)])])

    def test_struck_by_name_alone(self):
        with self.assertRaises(TypeError):
            best(BOOK, A, 1, ["a/"])

    def test_of_like_worths_the_lesser_address(self):
        book = {address: "cat" for address in ["b/", "a1/", "a/b", "a/", "z/", "a/b/c"]}
        told = best(book, ("word", "cat"), 10)
        self.assertEqual([hit[0] for hit in told], ["a/", "a/b", "a/b/c", "a1/", "b/", "z/"])
        self.assertEqual({hit[1] for hit in told}, {40})
        self.assertEqual([hit[0] for hit in best(book, ("word", "cat"), 2)], ["a/", "a/b"])

    def test_the_worthiest_first(self):
        book = {"a/": "cat", "b/": "cat cat", "c/": "cat cat cat", "d/": "# cat cat"}
        self.assertEqual([(hit[0], hit[1]) for hit in best(book, ("word", "cat"), 10)], [
            ("d/", 120), ("c/", 72), ("b/", 60), ("a/", 40),
        ])

    def test_at_most_k(self):
        book = {f"a{at}/": "cat" for at in range(14)}
        for k in range(1, 11):
            self.assertEqual(len(best(book, ("word", "cat"), k)), k)
        self.assertEqual(len(best({"a/": "cat"}, ("word", "cat"), 10)), 1)
        self.assertEqual(best({}, ("word", "cat"), 10), [])
        self.assertEqual(best(book, ("word", "dog"), 10), [])

    def test_hidden_and_struck_pages_are_no_hits(self):
        book = {"a/": "!hide\ncat", "b/": "cat", "c/": "cat"}
        self.assertEqual([hit[0] for hit in best(book, ("word", "cat"), 10)], ["b/", "c/"])
        self.assertEqual([hit[0] for hit in best(book, ("word", "cat"), 10, struck=["b"])], ["c/"])
        self.assertEqual(best(book, ("word", "cat"), 10, struck=("b/", "c/")), [])

    def test_struck_pages_count_for_nothing(self):
        book = {"a/": "cat", "b/": "cat [x](a/)", "c/": "dog"}
        self.assertEqual(best(book, ("word", "cat"), 1), [("a/", 31 * 40 + 25, [("cat", 1, 0, 1, 31), ("links", 1)])])
        self.assertEqual(best(book, ("word", "cat"), 1, struck=["b/"]), [("a/", 46 * 40, [("cat", 1, 0, 1, 46), ("links", 0)])])

    def test_a_question_without_words(self):
        book = {"a/": "cat", "b/": "[x](a/)", "a/b": "dog"}
        self.assertEqual(best(book, ("house", "a"), 5), [("a/", 25, [("links", 1)]), ("a/b", 0, [("links", 0)])])
        self.assertEqual(best(book, ("not", ("word", "cat")), 5), [("a/b", 0, [("links", 0)]), ("b/", 0, [("links", 0)])])

    def test_words_beneath_a_not_count_for_nothing(self):
        book = {"a/": "cat dog", "b/": "cat"}
        told = best(book, ("any", (("word", "cat"), ("not", ("word", "dog")))), 5)
        self.assertEqual([row[0] for hit in told for row in hit[2]], ["cat", "links"] * 2)

    def test_the_list_is_the_askers_own(self):
        book = dict(BOOK)
        told = best(book, ("word", "cat"), 5)
        wanted = copy.deepcopy(told)
        told[0][2].clear()
        told.clear()
        self.assertEqual(book, BOOK)
        self.assertEqual(best(book, ("word", "cat"), 5), wanted)
        self.assertIsInstance(wanted[0], tuple)
        self.assertIsInstance(wanted[0][2], list)

    def test_counts_beyond(self):
        for k in [0, 11, -1, 10 ** 100, True, False, None, "1", "a", 1.0, (), (1,), [], [1], {}, {1: 1}]:
            for book in [BOOK, {}]:
                with self.assertRaises(BadCount):
                    best(book, A, k)

    def test_no_questions(self):
        for thing in NO_QUESTIONS + NO_TEXTS:
            for k in [1, 0, None]:
                with self.assertRaises(BadQuestion):
                    best(BOOK, thing, k)

    def test_no_addresses_in_the_book(self):
        for thing in ["a", "", "a//", None, 1]:
            for question, k in [(A, 1), ("none", 1), (A, 0)]:
                with self.assertRaises(BadAddress):
                    best({thing: "cat"}, question, k)

    def test_of_many_books(self):
        chance = random.Random(14)
        asked = 0
        while asked < 1500:
            question = some_question(chance, 4)
            if not is_question(question):
                continue
            asked += 1
            book = some_book(chance, chance.randrange(11))
            struck = chance.sample(["a", "a/b", "b/x/", "c/", "c", "z"], chance.choice((0, 0, 1, 2)))
            k = chance.randrange(1, 11)
            self.assertEqual(best(book, question, k, struck=struck), plainly_best(book, question, k, struck))
