"""Point [8], and (f) of point [2] for questions: their texts, there and back."""

import itertools
import random
import re
import unittest

from asifread.errors import BadQuestion, NoText
from asifread.questions import is_question
from asifread.questiontexts import question_text, read_question
from others import DEEP, NO_TEXTS
from test_questions import A, B, C, KINDS, NO_QUESTIONS, deep_not, leaves, some_question

ALL = ("all", (A, B))
ANY = ("any", (A, B))
NOT = ("not", A)


class QuestionTextTest(unittest.TestCase):
    def told(self, question, text):
        self.assertEqual(question_text(question), text)
        self.assertEqual(read_question(text), question)

    def test_by_name(self):
        self.assertEqual(question_text(question=A), "a")
        self.assertEqual(read_question(text="a"), A)

    def test_each_kind(self):
        self.told(("word", "cat"), "cat")
        self.told(("title", "cat"), "title:cat")
        self.told(("row", ("black", "cat")), '"black cat"')
        self.told(("row", ("a", "b", "c")), '"a b c"')
        self.told(("row", tuple("abcd")), '"a b c d"')
        self.told(("near", 3, "cat", "dog"), "cat~3~dog")
        self.told(("near", 1, "a", "a"), "a~1~a")
        self.told(("near", 9, "1", "2"), "1~9~2")
        self.told(("house", "a"), "house:a")
        self.told(("house", "cats1234"), "house:cats1234")
        self.told(NOT, "-a")
        self.told(ALL, "a b")
        self.told(ANY, "a | b")
        self.told(("all", (A, B, C)), "a b c")
        self.told(("any", (A, B, C)), "a | b | c")
        self.told(("word", "title"), "title")
        self.told(("word", "house"), "house")
        self.told(("title", "title"), "title:title")
        self.told(("house", "house"), "house:house")

    def test_not_ahead_of_each(self):
        self.told(("not", ("title", "cat")), "-title:cat")
        self.told(("not", ("row", ("black", "cat"))), '-"black cat"')
        self.told(("not", ("near", 3, "cat", "dog")), "-cat~3~dog")
        self.told(("not", ("house", "a")), "-house:a")
        self.told(("not", NOT), "-(-a)")
        self.told(("not", ALL), "-(a b)")
        self.told(("not", ANY), "-(a | b)")

    def test_within_an_all(self):
        self.told(("all", (ANY, C)), "(a | b) c")
        self.told(("all", (C, ANY)), "c (a | b)")
        self.told(("all", (ALL, C)), "(a b) c")
        self.told(("all", (C, ALL)), "c (a b)")
        self.told(("all", (NOT, C)), "-a c")
        self.told(("all", (C, NOT)), "c -a")
        self.told(("all", tuple(KINDS[:5])), 'a title:a "a b" a~3~b house:a')

    def test_within_an_any(self):
        self.told(("any", (ANY, C)), "(a | b) | c")
        self.told(("any", (C, ANY)), "c | (a | b)")
        self.told(("any", (ALL, C)), "a b | c")
        self.told(("any", (C, ALL)), "c | a b")
        self.told(("any", (NOT, C)), "-a | c")
        self.told(("any", (C, NOT)), "c | -a")
        self.told(("any", tuple(KINDS[:5])), 'a | title:a | "a b" | a~3~b | house:a')

    def test_deeper(self):
        self.told(("any", (("all", (A, ("not", ANY))), ("not", ("not", ALL)))), "a -(a | b) | -(-(a b))")
        self.told(deep_not(5), "-(-(-(-a)))")
        self.told(leaves(12), "(a | a | a | a | a | a) (a a a a a a)")

    def test_refused(self):
        for thing in NO_QUESTIONS + NO_TEXTS + [leaves(13), deep_not(6), deep_not(3000)] + [("not", at) for at in DEEP]:
            with self.assertRaises(BadQuestion):
                question_text(thing)


class ReadQuestionTest(unittest.TestCase):
    def told(self, text, question):
        self.assertEqual(read_question(text), question, text)

    def refused(self, text):
        with self.assertRaises(NoText) as caught:
            read_question(text)
        self.assertEqual(caught.exception.row, 0)

    def test_there_and_back(self):
        chance = random.Random(9)
        asked = 0
        while asked < 4000:
            question = some_question(chance, 5, ["a", "cat", "9", "abcdefghijkl", "title", "house"])
            if is_question(question):
                asked += 1
                self.told(question_text(question), question)

    def test_words_are_their_roots(self):
        self.told("Cats", ("word", "cat"))
        self.told("CATS", ("word", "cat"))
        self.told("glass", ("word", "glass"))
        self.told("title:Cats", ("title", "cat"))
        self.told('"Black CATS"', ("row", ("black", "cat")))
        self.told("Cats~3~dogs", ("near", 3, "cat", "dog"))
        self.told("-Cats", ("not", ("word", "cat")))
        self.told("abcdefghijks", ("word", "abcdefghijk"))
        self.told("ABCDEFGHIJKL", ("word", "abcdefghijkl"))
        self.told("house:cats", ("house", "cats"))

    def test_each_sign_as_a_word(self):
        for code in [10] + list(range(32, 127)):
            sign = chr(code)
            if sign.isalnum():
                self.told(sign, ("word", sign.lower()))
                self.told(sign * 2, ("word", sign.lower() * 2))
                self.told("a(" + sign + "|x)", ("all", (A, ("any", (("word", sign.lower()), ("word", "x"))))))
                self.refused(f'"a b"{sign}')
            else:
                self.refused(sign)

    def test_words_of_no_such_length_or_signs(self):
        for word in ["abcdefghijklm", "abcdefghijkls", "a" * 13, "a-b", "a_b", "a.b", "a'", "a\n", "a\tb", "\u00e4", "\u212a",
                     "\u0130", "a:b", "a/", "a,b", "a\\b", "%", "a%"]:
            self.refused(word)
            self.refused("title:" + word)
            self.refused('"x ' + word + '"')
            self.refused('"' + word + ' x"')
            self.refused(word + "~3~x")
            self.refused("x~3~" + word)
            self.refused("-" + word)
            self.refused("x " + word)
            self.refused("x | " + word)
            self.refused("(" + word + ")")

    def test_blanks_at_the_ends(self):
        self.told(" a", A)
        self.told("a ", A)
        self.told("   a b   ", ALL)
        self.told(' "a b" ', ("row", ("a", "b")))
        self.told(" -a ", NOT)
        self.told(" (a) ", A)

    def test_blanks_beside_a_bar(self):
        for text in ["a|b", "a |b", "a| b", "a   |   b", " a|b "]:
            self.told(text, ANY)
        self.told('"a b"|"a b"', ("any", (("row", ("a", "b")),) * 2))
        self.told("-a|-b", ("any", (NOT, ("not", B))))
        self.told("a b|c", ("any", (ALL, C)))
        self.told("(a)|(b)", ANY)
        self.told("(a b)|c", ("any", (ALL, C)))

    def test_blanks_beside_brackets(self):
        for text in ["(a)", "( a)", "(a )", "(  a  )", " ( a ) ", "((a))", "( ( a ) )", "(((((a)))))"]:
            self.told(text, A)
        for text in ["-(a)", "- (a)", "-( a )", "-   (  a)", " - (a) ", "-((a))", "- ( (a) )", "(-a)", "( -a )", "( - (a))"]:
            self.told(text, NOT)
        for text in ["(a b)c", "(a b) c", "( a b )c", "(a b)(c)", "((a b)c)", "(a b)  (c)", "(a  b)  c"]:
            self.told(text, ("all", (ALL, C)))
        self.told("(a|b)c", ("all", (ANY, C)))
        self.told("c(a|b)", ("all", (C, ANY)))

    def test_blanks_lacking_beside_brackets(self):
        for text in ["a(b)", "(a)b", "(a)(b)", "a (b)", "(a) b", "(a)  (b)", "(a(b))", "a((b))"]:
            self.told(text, ALL)
        self.told("a(b)c", ("all", (A, B, C)))
        self.told('(a)"a b"', ("all", (A, ("row", ("a", "b")))))
        self.told('"a b"(a)', ("all", (("row", ("a", "b")), A)))
        self.told("(b)-a", ("all", (B, NOT)))
        self.told("-a(b)", ("all", (NOT, B)))
        self.told("-(a)b", ("all", (NOT, B)))
        self.told("-(a)(b)", ("all", (NOT, B)))
        self.told("title:a(b)house:c", ("all", (("title", "a"), B, ("house", "c"))))
        self.told("a~3~b(a)", ("all", (("near", 3, "a", "b"), A)))

    def test_more_blanks(self):
        self.told("a   b", ALL)
        self.told("a  -b", ("all", (A, ("not", B))))
        self.told('"a   b"', ("row", ("a", "b")))
        self.told('"a  b   c d"', ("row", tuple("abcd")))
        self.told('a  "a b"', ("all", (A, ("row", ("a", "b")))))

    def test_brackets_tell_nothing(self):
        self.told("(a b)", ALL)
        self.told("((a | b))", ANY)
        self.told("(a) (b)", ALL)
        self.told("(a) | (b)", ANY)
        self.told("(a b) | c", ("any", (ALL, C)))
        self.told("((a b)) c", ("all", (ALL, C)))
        self.told("(-a) b", ("all", (NOT, B)))
        self.told("-(-a)", ("not", NOT))
        self.told("-((-a))", ("not", NOT))
        self.told("-(-(a))", ("not", NOT))
        self.told("(title:a)", ("title", "a"))
        self.told('("a b")', ("row", ("a", "b")))
        self.told("(a~3~b)(house:a)", ("all", (("near", 3, "a", "b"), ("house", "a"))))
        self.told("(" * 20 + "a" + ")" * 20, A)
        self.told("(a)" * 6, ("all", (A,) * 6))

    def test_somewhat_beyond_the_limits(self):
        self.told("(" * 30 + "a" + ")" * 30, A)
        self.told("a" + " " * 400 + "b", ALL)

    def test_blanks_that_may_not_lack(self):
        for text in ['"a b""c d"', '"a b"c', 'c"a b"', "a-b", '"a b"-c', "a-(b)", 'a"b', '"a b"title:c', '-"a b"c',
                     '"a b"|c"a b"']:
            self.refused(text)

    def test_blanks_that_may_not_stand(self):
        for text in ["- a", "-  a", '- "a b"', "- title:a", "a - b", "title: a", "title :a", "house: a", "house :a", "a ~3~b",
                     "a~ 3~b", "a~3 ~b", "a~3~ b", '" a b"', '"a b "', '" a b "', "title:(a)", "title: (a)", "a~3~(b)",
                     "(a)~3~b", "house:(a)", "ca ts~", "\ta", "a\tb", "a\n", "a\nb", '"a\nb"', "\n"]:
            self.refused(text)

    def test_signs_that_lack_or_are_too_many(self):
        for text in ["", " ", "   ", "(", ")", "()", "( )", "a()", "()a", "(a", "a)", "((a)", "(a))", ")a(", "a)(b", "|", "a|",
                     "|a", "a||b", "a | | b", "(|a)", "(a|)", "a (| b)", "a (b |) c", "-", "--a", "- -a", "-|a", "-)", "(-)",
                     "a -", "a -|b", "-()", '"', '""', '" "', '"a', 'a"', '"a"', '"a b', 'a b"', '"(a b)"', '"a|b"', '"-a b"',
                     '"a -b"', '"a ""', "~", "a~", "~a", "a~3", "a~3~", "~3~b", "a~~b", "a~3~b~4~c", "3~b", "title:", "house:",
                     ":a", "title::a", "title:title:a", "house:house:a", "title:house:a", 'title:"a b"', "title:-a",
                     "title:a~3~b", "-title:", "and:a", "Title:a", "TITLE:a", "House:a", "word:a", "row:a", "[a]", "{a}",
                     "a, b", "a & b", "a + b", "!a", "'a b'", "a or b |", "a\\", "*"]:
            self.refused(text)

    def test_numbers_beyond(self):
        for told in ["0", "10", "00", "03", "+3", "-3", "3.", "a", "x", "", "\u0663", "\u00b2", "99"]:
            self.refused(f"a~{told}~b")

    def test_houses_that_are_none(self):
        for house in ["A", "aB", "a" * 9, "a/", "a/b", "a-b", ""]:
            self.refused("house:" + house)

    def test_words_parts_leaves_and_depth_beyond(self):
        self.refused('"a b c d e"')
        self.refused("a b c d e f g")
        self.refused("a|b|c|d|e|f|g")
        self.told("a b c d e f", ("all", tuple(("word", word) for word in "abcdef")))
        twelve = "(a|b|c|d|e|f)(a|b|c|d|e|f)"
        self.assertTrue(is_question(read_question(twelve)))
        self.refused(twelve + "g")
        self.refused(twelve + "-g")
        self.told("-(-(-(-a)))", deep_not(5))
        self.refused("-(-(-(-(-a))))")
        self.told("a(a|(a(a|a)))", ("all", (A, ("any", (A, ("all", (A, ("any", (A, A)))))))))
        self.refused("a(a|(a(a|(a a))))")

    def test_no_texts(self):
        for thing in NO_TEXTS:
            self.refused(thing)
        for question in KINDS:
            self.refused(question)


def loosely(chance, question, tight=False):
    """A text of the question with all that may differ chosen by chance; tight: it wants brackets or is of one part."""
    kind, told = question[0], question[1]

    def blanks(least):
        return " " * (least + chance.choice((0, 0, 1, 2)))

    def word(root):
        cut = len(root) < 3 or len(root) == 12 or root.endswith("s")
        text = root + ("" if cut else chance.choice(("", "s", "S")))
        return "".join(chance.choice((sign, sign.upper())) for sign in text)

    if kind == "word":
        text = word(told)
    elif kind == "title":
        text = "title:" + word(told)
    elif kind == "row":
        text = '"' + "".join(word(part) + blanks(1) for part in told[:-1]) + word(told[-1]) + '"'
    elif kind == "near":
        text = f"{word(question[2])}~{told}~{word(question[3])}"
    elif kind == "house":
        text = "house:" + told
    elif kind == "not":
        part = loosely(chance, told, told[0] in ("not", "all", "any"))
        text = "-" + (blanks(0) if part[0] == "(" else "") + part
    elif kind == "all":
        text = ""
        for part in told:
            after = loosely(chance, part, part[0] in ("all", "any"))
            text += blanks(0 if text == "" or text[-1] == ")" or after[0] == "(" else 1) if text else ""
            text += after
    else:
        text = (blanks(0) + "|" + blanks(0)).join(loosely(chance, part, part[0] == "any") for part in told)
    while tight or chance.random() < 0.2:
        text = "(" + blanks(0) + text + blanks(0) + ")"
        tight = False
    return text


BRACKETED = re.compile(r"\(([^()]*)\)")
PARTS = re.compile(r"-?[aB](?:(?<=a) -?a|(?<=a) -B|(?<=a)B|(?<=B)-?[aB])*")


def reads(text):
    """Whether a text of `a`, blanks, `-`, `|` and brackets is one of a question, reckoned another way."""
    text = re.sub("a+", "a", text.strip(" "))
    text = re.sub(" *([|()]) *", r"\1", text)
    text = re.sub(" +", " ", text)

    def whole(inner):
        return all(PARTS.fullmatch(part) for part in inner.split("|"))

    while True:
        found = BRACKETED.search(text)
        if found is None:
            return whole(text)
        if not whole(found.group(1)):
            return False
        text = text[:found.start()] + "B" + text[found.end():]


class AnyTextTest(unittest.TestCase):
    def test_all_that_may_differ(self):
        chance = random.Random(11)
        asked = 0
        while asked < 4000:
            question = some_question(chance, 5, ["a", "cat", "9", "abcdefghijkl", "title", "house", "glass", "hous"])
            text = loosely(chance, question)
            if is_question(question) and len(text) <= 300:
                asked += 1
                self.assertEqual(read_question(" " + text), question, text)

    def test_all_short_texts(self):
        read = 0
        for many in range(7):
            for signs in itertools.product("a -|()", repeat=many):
                text = "".join(signs)
                try:
                    question = read_question(text)
                except NoText:
                    question = None
                self.assertIs(question is not None, reads(text), text)
                read += question is not None
        self.assertGreater(read, 500)

    def test_what_is_read_is_a_question_and_written_reads_alike(self):
        chance = random.Random(10)
        signs = ["a", "b", " ", "(", ")", "|", "-", '"', "~", "3", "title:", "house:", "B", "s"]
        read = 0
        for _ in range(40000):
            text = "".join(chance.choices(signs, k=chance.randrange(1, 9)))
            try:
                question = read_question(text)
            except NoText as refusal:
                self.assertEqual(refusal.row, 0)
                continue
            read += 1
            self.assertTrue(is_question(question), text)
            self.assertEqual(read_question(question_text(question)), question)
        self.assertGreater(read, 1000)
