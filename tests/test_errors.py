"""The error classes: bases and fields, as the interface lists them."""

import inspect
import unittest

from asifread import errors

PLAIN = [
    "BadAddress", "BadQuestion", "BadCount", "NoEntry", "NotBeside", "NoFile", "NoPart", "NoMoment", "NoFall",
    "NoSeat", "NotKnown", "NoShard", "NoPrefix",
]
FIELDS = {"NoText": "row", "BadRow": "at", "BadEntry": "at", "NotSure": "shard", "NoLog": "at"}


class ErrorsTest(unittest.TestCase):
    def test_base(self):
        self.assertEqual(errors.AsIfError.__bases__, (ValueError,))

    def test_each_stands_straight_under_the_base(self):
        for name in PLAIN + list(FIELDS):
            with self.subTest(name=name):
                self.assertEqual(getattr(errors, name).__bases__, (errors.AsIfError,))

    def test_no_others(self):
        classes = [name for name, thing in vars(errors).items() if inspect.isclass(thing)]
        self.assertEqual(sorted(classes), sorted(PLAIN + list(FIELDS) + ["AsIfError"]))

    def test_plain_ones_are_raised(self):
        for name in PLAIN:
            with self.subTest(name=name):
                kind = getattr(errors, name)
                with self.assertRaises(kind) as caught:
                    raise kind("why")
                self.assertIsInstance(caught.exception, ValueError)
                self.assertIsInstance(kind(), errors.AsIfError)

    def test_fields(self):
        for name, field in FIELDS.items():
            for told in (0, 7, None):
                with self.subTest(name=name, told=told):
                    kind = getattr(errors, name)
                    by_place = kind(told)
                    by_name = kind(**{field: told})
                    self.assertEqual(vars(by_place), {field: told})
                    self.assertEqual(vars(by_name), {field: told})
                    with self.assertRaises(kind) as caught:
                        raise by_place
                    self.assertEqual(getattr(caught.exception, field), told)

    def test_fields_are_wanted(self):
        for name in FIELDS:
            with self.subTest(name=name), self.assertRaises(TypeError):
                getattr(errors, name)()

    def test_messages_are_texts(self):
        for name in FIELDS:
            self.assertIsInstance(str(getattr(errors, name)(3)), str)
