"""Point [24]: things and logs as texts, there and back; of point [2](f), what it says of logs."""

import itertools
import random
import unittest

from asifread.errors import NoText
from asifread.judge import again, judged
from asifread.logtexts import log_text, read_log
from asifread.things import read_thing, thing_text
from others import DEEP, NO_TEXTS
from test_judge import some_log

SIGNS = "\n" + "".join(chr(code) for code in range(32, 127) if code != 37)
PAIRS = [
    (0, "0"), (7, "7"), (10, "10"), (-1, "-1"), (-10, "-10"), (1234567890, "1234567890"), (10 ** 60, "1" + "0" * 60),
    (-10 ** 60, "-1" + "0" * 60), (None, "none"), (True, "yes"), (False, "no"), ("", '""'), ("cat", '"cat"'), ("a b", '"a b"'),
    ('"', '"\\""'), ("\\", '"\\\\"'), ("\n", '"\\n"'), ("n", '"n"'), ("\\n", '"\\\\n"'), ('\\"', '"\\\\\\""'),
    ('a"b\\c\nd', '"a\\"b\\\\c\\nd"'), ("none", '"none"'), ("(1, 2)", '"(1, 2)"'), ("7", '"7"'), (", ", '", "'),
    ((), "()"), ((1,), "(1)"), ((1, 2), "(1, 2)"), ((1, -2, 3), "(1, -2, 3)"), (((),), "(())"), (((), ()), "((), ())"),
    ((None, True, False, "x", (0,)), '(none, yes, no, "x", (0))'), (("a, b", ")"), '("a, b", ")")'), ((((1,),),), "(((1)))"),
    ((1, (2, (3, ())), 4), "(1, (2, (3, ())), 4)"), (("\n\\",), '("\\n\\\\")'),
]
NO_THINGS = [
    "", " ", "1 ", " 1", "01", "00", "-0", "-", "--1", "+1", "-01", "1.0", "1e3", "0x1", "1_0", "1-", "1x", "x1", "1n", "\u0663", "\u00b2", "None", "True", "none ",
    " none", "nonee", "NONE", "Yes", "yes1", "noyes", "true", "cat", '"', '"cat', 'cat"', '"cat" ', ' "cat"', '"cat"x', '""x', '"""', '"a"b"',
    '"\\"', '"\\', '"\\a"', '"\\t"', '"\\N"', '"a\nb"', '"\n"', '"\nn"', '"\n""', '"a\n\\"', "'cat'", "(", ")", "(1", "1)", "(1,2)", "(1,  2)", "(1 , 2)", "( 1)", "(1 )",
    "(1,)", "(1, )", "(, 1)", "(,)", "( )", "(1, 2))", "((1, 2)", "(1)(2)", "()()", "() ", " ()", "(1 2)", "(1, 2,)", "(1; 2)", "[1, 2]", "[]",
    "{}", "(none none)", "(cat)", '("a""b")', '("a", "b)', "(1,\n2)", "\n1", "1\n", "1, 2", "1,", ",", ", 1", "(01)", "(-0)", "(1, 02)", "(yes, No)", "(1, )",
]


def same(one, other):
    """Whether two things are the same and of the same kinds."""
    if type(one) is not type(other) or isinstance(one, tuple) and len(one) != len(other):
        return False
    return all(map(same, one, other)) if isinstance(one, tuple) else one == other


def some_thing(chance, deep):
    kind = chance.randrange(7 if deep else 5)
    if kind == 0:
        return chance.choice((None, True, False))
    if kind == 1:
        return chance.choice((0, 1, -1, chance.randrange(-10 ** 12, 10 ** 12)))
    if kind < 5:
        return "".join(chance.choices(SIGNS + '"\\\n()n, ' * 4, k=chance.randrange(6)))
    return tuple(some_thing(chance, deep - 1) for _ in range(chance.randrange(4)))


class ThingTest(unittest.TestCase):
    def test_there_and_back(self):
        for thing, text in PAIRS:
            with self.subTest(text=text):
                self.assertEqual(thing_text(thing), text)
                self.assertEqual(thing_text(thing=thing), text)
                self.assertTrue(same(read_thing(text), thing))
                self.assertTrue(same(read_thing(text=text), thing))

    def test_each_sign(self):
        for sign in SIGNS:
            for text in (sign, "a" + sign, sign + "a", sign + sign, "\\" + sign, sign + "\\"):
                self.assertEqual(read_thing(thing_text(text)), text)
                self.assertNotIn("\n", thing_text(text))
        self.assertEqual(read_thing(thing_text(SIGNS * 20)), SIGNS * 20)

    def test_large_numbers(self):
        for many in (100, 900, 3999):
            for number in (10 ** many, -10 ** many, 10 ** many + 7):
                self.assertEqual(read_thing(thing_text(number)), number)
                self.assertEqual(read_thing(thing_text((number, 1))), (number, 1))

    def test_twenty_deep(self):
        for deep in range(1, 31):
            for inner, text in [(7, "7"), ("x", '"x"'), ((), "()")]:
                thing = inner
                for _ in range(deep - (inner == ())):
                    thing = (thing,)
                text = "(" * (deep - (inner == ())) + text + ")" * (deep - (inner == ()))
                self.assertEqual(thing_text(thing), text)
                self.assertTrue(same(read_thing(text), thing))
                self.assertTrue(same(read_thing("(1, " + text + ', "y")'), (1, thing, "y")))

    def refused(self, text):
        with self.subTest(text=text), self.assertRaises(NoText) as caught:
            read_thing(text)
        self.assertEqual(caught.exception.row, 0)

    def test_no_things(self):
        for text in NO_THINGS:
            self.refused(text)
            if not set(text) & set("(),"):
                for around in ["({})", "({}, 1)", "(1, {})", "(1, ({}), 2)"]:
                    if text != "":
                        self.refused(around.format(text))

    def test_no_texts(self):
        for thing in NO_TEXTS + DEEP:
            with self.assertRaises(NoText) as caught:
                read_thing(thing)
            self.assertEqual(caught.exception.row, 0)

    def test_texts_of_many_brackets(self):
        for text in ["(" * 5000, "(" * 100000, "()" * 1000, ")" * 5000, '"' * 1001, "(1, " * 3000]:
            with self.assertRaises(NoText) as caught:
                read_thing(text)
            self.assertEqual(caught.exception.row, 0)

    def test_all_short_texts(self):
        # Each is either refused or just what its thing is written as.
        found = set()
        for many in range(6):
            for signs in itertools.product('(), 1"\\n0-', repeat=many):
                text = "".join(signs)
                try:
                    thing = read_thing(text)
                except NoText:
                    continue
                self.assertEqual(thing_text(thing), text)
                found.add(text)
        for text in ["1", "10", "0", "-1", '""', '"n"', '"\\n"', '"\\\\"', "()", "(1)", "(())", '("")', "(-1)", '"(,"', '" "', "(10)", '" , "']:
            self.assertIn(text, found)
        self.assertEqual(len([text for text in found if len(text) <= 2]), 2 + 2 + 1 + 1 + 1)

    def test_things_of_chance(self):
        chance = random.Random(141)
        for _ in range(3000):
            thing = some_thing(chance, 4)
            text = thing_text(thing)
            self.assertTrue(same(read_thing(text), thing), text)
            at = chance.randrange(len(text))
            other = text[:at] + chance.choice(["", " ", "0", "-", '"', "(", ")", ",", "\\", "n"]) + text[at + chance.randrange(2):]
            try:
                self.assertEqual(thing_text(read_thing(other)), other)
            except NoText as error:
                self.assertEqual(error.row, 0)


class LogTextTest(unittest.TestCase):
    def test_there_and_back(self):
        for log, text in [
            ([], ""), ([()], "()\n"), ([(1,)], "(1)\n"), ([("a", 1), ("b\n", None)], '("a", 1)\n("b\\n", none)\n'), ([(), (), ()], "()\n()\n()\n"),
        ]:
            self.assertEqual(log_text(log), text)
            self.assertEqual(log_text(log=tuple(log)), text)
            self.assertEqual(read_log(text), log)
            self.assertEqual(read_log(text=text), log)
            self.assertIsInstance(read_log(text), list)

    def refused(self, text, row):
        with self.assertRaises(NoText) as caught:
            read_log(text)
        self.assertEqual(caught.exception.row, row)

    def test_rows_that_are_not_ended(self):
        self.refused("()", 0)
        self.refused("(1)\n(2)", 1)
        self.refused("(1)\n(2)\n ", 2)
        self.refused("(1)\n(2)\n(", 2)
        self.refused("x", 0)

    def test_rows_that_are_no_tuples(self):
        for bad in ["1", "none", '"a"', "", " ()", "() ", "(1,2)", "(", "cat", "(01)", "()()", "()\r", *NO_THINGS]:
            if "\n" not in bad:
                self.refused(bad + "\n", 0)
                self.refused("()\n" + bad + "\n", 1)
                self.refused("()\n(2)\n" + bad + "\n" + bad + "\n()", 2)
        self.refused("\n", 0)
        self.refused("()\n\n()\n", 1)
        self.refused("()\n()\n\n", 2)

    def test_no_texts(self):
        for thing in NO_TEXTS + DEEP:
            self.refused(thing, 0)

    def test_logs_of_houses(self):
        chance = random.Random(142)
        for _ in range(8):
            house = some_log(chance, 50)
            log = house.log()
            text = log_text(log)
            self.assertEqual((text.count("\n"), text[-1]), (len(log), "\n"))
            told = read_log(text)
            self.assertTrue(all(map(same, told, log)))
            self.assertEqual(len(told), len(log))
            self.assertIsNone(judged(told))
            self.assertEqual(log_text(again(told).log()), text)

    def test_what_is_handed_in_stays(self):
        log = [("a", ("b", 1))]
        log_text(log)
        self.assertEqual(log, [("a", ("b", 1))])
