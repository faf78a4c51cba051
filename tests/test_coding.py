"""Point [13]: entries, number rows, text rows, Taker."""

import random
import unittest

from asifread.coding import Taker, is_entry, number_row, text_row
from asifread.errors import BadRow
from others import NO_TEXTS
from test_addresses import NO_ADDRESSES

TEXT_SIGNS = "\n" + "".join(chr(code) for code in range(32, 127) if code != 37)
NO_TICKS = [-1, -10 ** 100, True, False, None, "1", "", 1.0, (), (1,), [], [1], {}, b"1", object()]


def plain_number_row(n):
    """The row of a number, reckoned another way: from its figures to the base 2."""
    figures = f"{n:b}"
    figures = "0" * (-len(figures) % 7) + figures
    sevens = [int(figures[at:at + 7], 2) for at in range(0, len(figures), 7)][::-1]
    return [seven + 128 for seven in sevens[:-1]] + sevens[-1:]


class IsEntryTest(unittest.TestCase):
    def test_entries(self):
        for entry in [
            ("a/", "", 0), ("a/", "cat", 1), ("a/b/c/d", "a\nb", 10 ** 9), ("a/", None, 0), ("a/", None, 10 ** 100),
            ("a/", TEXT_SIGNS, 3), ("a/", "x" * 3000, 3),
        ]:
            self.assertIs(is_entry(entry), True)

    def test_no_entries(self):
        for thing in [
            (), ("a/",), ("a/", "cat"), ("a/", "cat", 1, 2), ["a/", "cat", 1], {"a/": 1, "cat": 2, 1: 3}, "a/c", "abc",
            ("a/", 1, "cat"), ("cat", "a/", 1), (None, None, None), (("a/", "cat", 1),), [("a/", "cat", 1)],
        ] + NO_TEXTS:
            self.assertIs(is_entry(thing), False)

    def test_no_addresses(self):
        for thing in NO_ADDRESSES + NO_TEXTS:
            self.assertIs(is_entry((thing, "cat", 1)), False)

    def test_no_texts(self):
        for thing in [thing for thing in NO_TEXTS if thing is not None] + ["%", "100%", "\t", "a\r\nb", "\u00e4", "\x7f", "\0"]:
            self.assertIs(is_entry(("a/", thing, 1)), False)

    def test_no_ticks(self):
        for thing in NO_TICKS:
            self.assertIs(is_entry(("a/", "cat", thing)), False)
            self.assertIs(is_entry(("a/", None, thing)), False)


class NumberRowTest(unittest.TestCase):
    def test_by_hand(self):
        for number, row in [
            (0, [0]), (1, [1]), (127, [127]), (128, [128, 1]), (129, [129, 1]), (255, [255, 1]), (256, [128, 2]),
            (300, [172, 2]), (16383, [255, 127]), (16384, [128, 128, 1]), (16385, [129, 128, 1]), (2 ** 21 - 1, [255, 255, 127]),
            (2 ** 21, [128, 128, 128, 1]), (2 ** 700, [128] * 100 + [1]), (2 ** 700 - 1, [255] * 99 + [127]),
        ]:
            self.assertEqual(number_row(number), row)
            self.assertEqual(number_row(n=number), row)
            self.assertEqual(Taker(row).take_number(), number)

    def test_many(self):
        chance = random.Random(31)
        for number in list(range(1000)) + [chance.randrange(2 ** chance.randrange(1, 200)) for _ in range(500)] + [10 ** 3999]:
            row = number_row(number)
            self.assertEqual(row, plain_number_row(number))
            taker = Taker(row)
            self.assertEqual(taker.take_number(), number)
            self.assertIs(taker.at_end(), True)

    def test_the_row_is_the_askers_own(self):
        number_row(5).clear()
        self.assertEqual(number_row(5), [5])


class TextRowTest(unittest.TestCase):
    def test_by_hand(self):
        for text, row in [
            ("", [0]), ("a", [1, 97]), ("cat", [3, 99, 97, 116]), ("\n", [1, 10]), (" ~", [2, 32, 126]), ("a\nb", [3, 97, 10, 98]),
            ("x" * 127, [127] + [120] * 127), ("x" * 128, [128, 1] + [120] * 128), ("x" * 2000, [208, 15] + [120] * 2000),
        ]:
            self.assertEqual(text_row(text), row)
            self.assertEqual(text_row(text=text), row)
            self.assertEqual(Taker(row).take_text(), text)

    def test_all_signs(self):
        self.assertEqual(text_row(TEXT_SIGNS), [len(TEXT_SIGNS)] + [ord(sign) for sign in TEXT_SIGNS])
        self.assertEqual(Taker(text_row(TEXT_SIGNS)).take_text(), TEXT_SIGNS)

    def test_codes_are_number_rows(self):
        self.assertEqual(text_row("\u00e4"), [1, 228, 1])


class TakerTest(unittest.TestCase):
    def refused(self, row, method, at):
        """At each place in a longer row the taker refuses this, and stands where it stood."""
        for ahead in [[], [5], [200, 1]]:
            taker = Taker(row=ahead + row)
            if ahead:
                taker.take_number()
            for _ in range(2):
                with self.assertRaises(BadRow) as caught:
                    getattr(taker, method)()
                self.assertEqual(caught.exception.at, len(ahead) + at)
            self.assertIs(taker.at_end(), row == [])
            self.assertEqual(taker.at, len(ahead))

    def test_one_behind_the_other(self):
        row = number_row(300) + text_row("cat\n") + text_row("") + number_row(0) + number_row(7) + text_row("~")
        taker = Taker(row)
        self.assertIs(taker.at_end(), False)
        self.assertEqual(taker.take_number(), 300)
        self.assertEqual(taker.take_text(), "cat\n")
        self.assertEqual(taker.take_text(), "")
        self.assertEqual(taker.take_number(), 0)
        self.assertEqual(taker.take_number(), 7)
        self.assertIs(taker.at_end(), False)
        self.assertEqual(taker.take_text(), "~")
        self.assertIs(taker.at_end(), True)

    def test_at_the_end(self):
        self.assertIs(Taker([]).at_end(), True)
        self.assertIs(Taker([0]).at_end(), False)
        self.refused([], "take_number", 0)
        self.refused([], "take_text", 0)

    def test_a_row_that_ends_too_soon(self):
        for many in range(1, 5):
            self.refused([128] * many, "take_number", many)
            self.refused([255] * many, "take_number", many)
            self.refused([200] * many, "take_text", many)
        self.refused([1], "take_text", 1)
        self.refused([3, 97, 98], "take_text", 3)
        self.refused([3, 97, 98, 200], "take_text", 4)
        self.refused([1, 170], "take_text", 2)
        self.refused([128, 1, 97, 97], "take_text", 4)
        self.refused([255] * 20 + [1, 97], "take_text", 22)
        self.refused(number_row(10 ** 1000) + [97], "take_text", len(number_row(10 ** 1000)) + 1)

    def test_a_zero_behind_another(self):
        for row, at in [([128, 0], 1), ([129, 0], 1), ([255, 0, 5], 1), ([128, 128, 0], 2), ([130, 200, 0], 2), ([128, 0, 0], 1)]:
            self.refused(row, "take_number", at)
            self.refused(row, "take_text", at)
            self.refused([2, 97] + row, "take_text", 2 + at)
            self.refused([1] + row + [99], "take_text", 1 + at)
        self.assertEqual(Taker([0]).take_number(), 0)
        self.assertEqual(Taker([0, 128]).take_number(), 0)
        self.assertEqual(Taker([128, 128, 1, 0]).take_number(), 2 ** 14)

    def test_a_code_that_is_no_sign(self):
        for code in range(300):
            row = number_row(code)
            if code == 10 or 32 <= code <= 126 and code != 37:
                self.assertEqual(Taker([1] + row).take_text(), chr(code))
                continue
            self.refused([1] + row, "take_text", 1)
            self.refused([2, 97] + row, "take_text", 2)
            self.refused([2] + row + [97], "take_text", 1)
            self.refused([3, 97] + row + row, "take_text", 2)
        self.refused([1] + number_row(10 ** 100), "take_text", 1)
        self.refused([1] + number_row(2 ** 32 + 97), "take_text", 1)

    def test_percent_signs(self):
        self.refused([3, 97, 37, 97], "take_text", 2)
        self.assertEqual(Taker([37]).take_number(), 37)
        self.assertEqual(Taker([37] + [97] * 37).take_text(), "a" * 37)

    def test_what_is_met_first(self):
        self.refused([3, 9, 128, 0], "take_text", 1)
        self.refused([3, 97, 128, 0, 9], "take_text", 3)
        self.refused([3, 97, 9], "take_text", 2)
        self.refused([3, 97, 128, 0], "take_text", 3)
        self.refused([2, 200], "take_text", 2)
        self.refused([2, 37], "take_text", 1)
        self.refused([128, 0, 37], "take_text", 1)
        self.refused([2, 200, 0, 9], "take_text", 2)

    def test_it_goes_on_behind_a_refusal(self):
        taker = Taker([2, 97, 9, 5])
        for _ in range(3):
            with self.assertRaises(BadRow):
                taker.take_text()
        self.assertEqual([taker.take_number() for _ in range(4)], [2, 97, 9, 5])
        with self.assertRaises(BadRow) as caught:
            taker.take_number()
        self.assertEqual(caught.exception.at, 4)
        self.assertIs(taker.at_end(), True)
        taker = Taker([128, 0])
        with self.assertRaises(BadRow):
            taker.take_number()
        self.assertIs(taker.at_end(), False)

    def test_the_row_stays_and_may_be_changed_behind(self):
        row = [2, 97, 98, 7]
        taker = Taker(row)
        self.assertEqual(taker.take_text(), "ab")
        self.assertEqual(row, [2, 97, 98, 7])
        row.clear()
        self.assertEqual(taker.take_number(), 7)
        self.assertIs(taker.at_end(), True)
        row = [1]
        taker = Taker(row)
        row.append(97)
        with self.assertRaises(BadRow) as caught:
            taker.take_text()
        self.assertEqual(caught.exception.at, 1)

    def test_a_tuple(self):
        taker = Taker((1, 97, 172, 2))
        self.assertEqual((taker.take_text(), taker.take_number(), taker.at_end()), ("a", 300, True))

    def test_things_of_chance(self):
        chance = random.Random(32)
        for _ in range(300):
            things, row = [], []
            for _ in range(chance.randrange(6)):
                if chance.randrange(2):
                    things.append("".join(chance.choices(TEXT_SIGNS, k=chance.choice((0, 1, 5, 130)))))
                    row += text_row(things[-1])
                else:
                    things.append(chance.randrange(2 ** chance.choice((1, 7, 8, 14, 15, 60))))
                    row += number_row(things[-1])
            self.assertTrue(all(0 <= number <= 255 for number in row))
            taker = Taker(row)
            told = [taker.take_text() if isinstance(thing, str) else taker.take_number() for thing in things]
            self.assertEqual(told, things)
            self.assertIs(taker.at_end(), True)
