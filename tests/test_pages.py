"""Point [5]: what a page's text tells, and to which addresses it leads."""

import random
import re
import unittest

from asifread.errors import BadAddress
from asifread.pages import Page, links_of, parsed
from others import NO_TEXTS
from test_addresses import NO_ADDRESSES

LINK = re.compile(r"\[([^\[\]\n]*)\]\(([^ \n\[\]()]+)\)")


def fields(page):
    return (page.hidden, page.quiet, page.title, page.body, page.links)


def plainly_parsed(text):
    """The fields, reckoned another way."""
    rows = text.split("\n")
    others = [row for row in rows if row[:1] != "!"]
    title = ""
    if others and others[0][:2] == "# ":
        title = others.pop(0)[2:]
    body = "\n".join(others)
    return (
        "!hide" in rows, "!quiet" in rows, title, LINK.sub(lambda found: found.group(1), body),
        tuple(found.group(2) for found in LINK.finditer(body)),
    )


class ParsedTest(unittest.TestCase):
    def told(self, text, **wanted):
        page = parsed(text)
        self.assertIsInstance(page, Page)
        for name, worth in wanted.items():
            self.assertEqual(getattr(page, name), worth, (text, name))
        self.assertEqual(fields(page), plainly_parsed(text))
        self.assertEqual(sorted(vars(page)), ["body", "hidden", "links", "quiet", "title"])
        self.assertIsInstance(page.hidden, bool)
        self.assertIsInstance(page.quiet, bool)
        self.assertIsInstance(page.title, str)
        self.assertIsInstance(page.body, str)
        self.assertIsInstance(page.links, tuple)
        for link in page.links:
            self.assertIsInstance(link, str)

    def test_by_name(self):
        self.assertEqual(parsed(text="# T\nb").title, "T")

    def test_whole_page(self):
        self.told(
            "!x\n# The cats\nA [black cat](./b) sat.\n!quiet\nEnd [](/)\n!hide",
            hidden=True, quiet=True, title="The cats", body="A black cat sat.\nEnd ", links=("./b", "/"),
        )

    def test_empty_text(self):
        self.told("", hidden=False, quiet=False, title="", body="", links=())

    def test_rows_that_are_left_out(self):
        self.told("a\n!b\nc", body="a\nc")
        self.told("!b", body="", title="")
        self.told("!", body="")
        self.told("!\n!", body="")
        self.told("a\n!", body="a")
        self.told("!\na", body="a")
        self.told("a !b\n b", body="a !b\n b")
        self.told(" !hide\na", body=" !hide\na", hidden=False)
        self.told("![words](link)\n[x](y)", body="x", links=("y",))

    def test_hidden(self):
        self.told("!hide", hidden=True, quiet=False)
        self.told("a\n!hide\nb", hidden=True, body="a\nb")
        for row in ["!hide ", "!Hide", "! hide", "!hid", "!hides", "!!hide", "hide", " !hide", "!HIDE", "!hide!", "#!hide",
                    "# !hide"]:
            self.told(row, hidden=False, quiet=False)
            self.told("a\n" + row + "\nb", hidden=False, quiet=False)

    def test_quiet(self):
        self.told("!quiet", quiet=True, hidden=False)
        self.told("a\n!quiet\nb", quiet=True, body="a\nb")
        for row in ["!quiet ", "!Quiet", "! quiet", "!quie", "!quiets", "!!quiet", "quiet", " !quiet", "!quiet!", "# !quiet"]:
            self.told(row, hidden=False, quiet=False)
            self.told("a\n" + row + "\nb", hidden=False, quiet=False)

    def test_both(self):
        self.told("!quiet\n!hide\n!hide", hidden=True, quiet=True)

    def test_title(self):
        self.told("# T", title="T", body="")
        self.told("# T\nb", title="T", body="b")
        self.told("# \nb", title="", body="b")
        self.told("#  T \nb", title=" T ", body="b")
        self.told("!a\n!b\n# T\nb", title="T", body="b")
        self.told("# # T", title="# T", body="")
        self.told("# [words](link)\nb", title="[words](link)", links=(), body="b")
        self.told("# T\n", title="T", body="")
        self.told("# T\n\n", title="T", body="\n")

    def test_near_to_a_title(self):
        for row in ["#", "#T", "## T", " # T", "#\tT", "T", "T # T", "#!", "-# T"]:
            self.told(row, title="", body=row)
            self.told("!a\n" + row + "\nb", title="", body=row + "\nb")

    def test_title_row_that_is_not_the_first(self):
        self.told("a\n# T\nb", title="", body="a\n# T\nb")
        self.told("\n# T", title="", body="\n# T")
        self.told("# T\n# U\nb", title="T", body="# U\nb")

    def test_empty_rows(self):
        self.told("\n", body="\n", title="")
        self.told("\n\n\n", body="\n\n\n")
        self.told("a\n\nb\n", body="a\n\nb\n")
        self.told("!a\n\n!b\n", body="\n")

    def test_links(self):
        self.told("[words](link)", body="words", links=("link",))
        self.told("a[b](c)d", body="abd", links=("c",))
        self.told("[](x)", body="", links=("x",))
        self.told("[ ](x)", body=" ", links=("x",))
        self.told("[a b, c!](/x-y_z#1)", body="a b, c!", links=("/x-y_z#1",))
        self.told("[a](b)[c](d)", body="ac", links=("b", "d"))
        self.told("[a](z) [b](y)\n[c](z)", body="a b\nc", links=("z", "y", "z"))
        self.told("[a)(b](c)", body="a)(b", links=("c",))

    def test_no_links(self):
        for text in [
            "[a]()", "[]()", "[a]", "[a](", "[a](b", "[a] (b)", "[a]b)", "a](b)", "(b)[a]", "[a](b c)", "[a]( b)", "[a](b )",
            "[a](b\nc)", "[a](b\n)", "[a\nb](c)", "[a]\n(b)", "[a](\nb)", "[a](b[)", "[a](b])", "[a](b(c)", "[a](b(c))",
            "[a](()", "[a]](b)", "[", "]", "](", "[[]]", "[a", "[a](b]", "[a]((b)",
        ]:
            self.told(text, body=text, links=())

    def test_brackets_ahead_of_and_within(self):
        self.told("[[a](b)", body="[a", links=("b",))
        self.told("[[a](b)]", body="[a]", links=("b",))
        self.told("[[a](b)](c)", body="[a](c)", links=("b",))
        self.told("][a](b)", body="]a", links=("b",))
        self.told("[a[b](c)", body="[ab", links=("c",))
        self.told("[a]b](c)", body="[a]b](c)", links=())
        self.told("[a](b)(c)", body="a(c)", links=("b",))
        self.told("[a](b))", body="a)", links=("b",))
        self.told("([a](b))", body="(a)", links=("b",))
        self.told("[a](b[c](d))", body="[a](bc)", links=("d",))
        self.told("[a][b](c)", body="[a]b", links=("c",))
        self.told("[a]()[b](c)", body="[a]()b", links=("c",))

    def test_all_other_signs(self):
        for code in [10] + list(range(32, 127)):
            sign = chr(code)
            in_words = sign not in "[]\n"
            self.assertEqual(parsed(f"[a{sign}](d)").body == f"a{sign}", in_words)
            self.assertEqual(parsed(f"[a](b{sign}c)").links == (f"b{sign}c",), sign not in " \n[]()")
            self.assertEqual(parsed(f"[a]({sign})").links == (sign,), sign not in " \n[]()")

    def test_what_came_of_links_is_not_sought_again(self):
        self.told("[[a](b)](c)", body="[a](c)", links=("b",))
        self.told("[[](x)a](y)", body="[a](y)", links=("x",))
        self.told("[a[](q)](r)", body="[a](r)", links=("q",))

    def test_left_out_rows_join_no_link(self):
        self.told("[a](b\n!x\n)", body="[a](b\n)", links=())

    def test_of_many_texts(self):
        chance = random.Random(5)
        for _ in range(6000):
            text = "".join(chance.choice("[[]](()) \n!#ab") for _ in range(chance.randrange(24)))
            self.told(text)
        rows = ["!hide", "!quiet", "# a", "#a", "", "a", "[a](b)", "[](c", ")", "!x", " !hide", "# [b](c)"]
        for _ in range(2000):
            self.told("\n".join(chance.choice(rows) for _ in range(chance.randrange(6))))


class LinksOfTest(unittest.TestCase):
    def test_rising_each_once(self):
        page = parsed("[x](z/) [x](b/c) [x](/d) [x](z/) [x](./d) [x](a/d) [x](A)")
        self.assertEqual(links_of("a/b", page), ["a/d", "b/c", "z/"])
        self.assertEqual(links_of(page=page, address="a/b"), ["a/d", "b/c", "z/"])

    def test_rising_as_texts(self):
        page = parsed("[](a1/) [](a/) [](a/b/c) [](a/b) [](a/b1) [](a0/z)")
        self.assertEqual(links_of("z/", page), ["a/", "a/b", "a/b/c", "a/b1", "a0/z", "a1/"])

    def test_not_its_own(self):
        page = parsed("[x](a/b) [x](./b) [x](/b) [x](a/c)")
        self.assertEqual(links_of("a/b", page), ["a/c"])
        self.assertEqual(links_of("a/", parsed("[x](/) [x](./) [x](a/)")), [])
        self.assertEqual(links_of("a/c", page), ["a/b"])

    def test_by_where_the_page_is(self):
        page = parsed("[x](./d) [x](../d) [x](/d)")
        self.assertEqual(links_of("a/", page), ["a/d"])
        self.assertEqual(links_of("a/b/c", page), ["a/b/d", "a/d"])
        self.assertEqual(links_of("e/b/c/d", page), ["e/b/d", "e/d"])

    def test_links_that_lead_to_nothing(self):
        page = parsed("[x](no) [x](../) [x](/a/b/c/d) [x](./B) [x](..) [x](a//)")
        self.assertEqual(links_of("a/b", page), [])
        self.assertEqual(links_of("a/b", parsed("")), [])

    def test_quiet(self):
        page = parsed("!quiet\n[x](b/) [x](/c)")
        self.assertEqual(page.links, ("b/", "/c"))
        self.assertEqual(links_of("a/b", page), [])

    def test_hidden_pages_lead_on(self):
        self.assertEqual(links_of("a/b", parsed("!hide\n[x](b/)")), ["b/"])

    def test_a_fresh_list_at_each_call(self):
        for text in ["[x](b/)", "!quiet\n[x](b/)", ""]:
            page = parsed(text)
            told = links_of("a/", page)
            wanted = list(told)
            told.append("spoilt")
            self.assertIsInstance(told, list)
            self.assertEqual(links_of("a/", page), wanted)

    def test_refused(self):
        for text in ["[x](b/)", "!quiet", ""]:
            page = parsed(text)
            for thing in NO_ADDRESSES + NO_TEXTS:
                with self.assertRaises(BadAddress):
                    links_of(thing, page)
