"""Point [15]: disks."""

import random
import unittest

from asifread.disk import Disk
from asifread.errors import NoFile

NO_NUMBERS = [-1, -10 ** 100, 10 ** 100, None, True, False, "0", "1", 0.0, 1.0, (), (0,), [], [0], {}, {0: 0}, b"", object()]


def told(disk):
    """All that a Disk tells, but for its cuts."""
    return disk.names(), [disk.read(name) for name in disk.names()], disk.writes()


class DiskTest(unittest.TestCase):
    def test_at_first(self):
        self.assertEqual(told(Disk()), ([], [], 0))
        self.assertEqual(told(Disk().cut(0)), ([], [], 0))

    def test_put_and_read(self):
        disk = Disk()
        self.assertIsNone(disk.put("b", [1, 2]))
        self.assertIsNone(disk.put(row=[], name="a"))
        self.assertEqual(told(disk), (["a", "b"], [[], [1, 2]], 2))
        self.assertEqual(disk.read(name="b"), [1, 2])

    def test_in_the_place_of_an_elder_one(self):
        disk = Disk()
        disk.put("a", [1, 2, 3])
        disk.put("a", [4])
        self.assertEqual(told(disk), (["a"], [[4]], 2))
        disk.put("a", [4])
        self.assertEqual(disk.writes(), 3)

    def test_names_rise(self):
        disk = Disk()
        for name in ["b", "a 10", "c", "a 9", "", "a"]:
            disk.put(name, [])
        self.assertEqual(disk.names(), ["", "a", "a 10", "a 9", "b", "c"])

    def test_drop(self):
        disk = Disk()
        disk.put("a", [1])
        disk.put("b", [2])
        self.assertIsNone(disk.drop("a"))
        self.assertEqual(told(disk), (["b"], [[2]], 3))
        disk.put("a", [3])
        disk.drop(name="b")
        self.assertEqual(told(disk), (["a"], [[3]], 5))

    def test_no_file(self):
        disk = Disk()
        disk.put("a", [1])
        disk.put("b", [1])
        disk.drop("b")
        before = told(disk)
        for name in ["b", "", "A", "a ", "c", "aa", None]:
            with self.assertRaises(NoFile):
                disk.read(name)
            with self.assertRaises(NoFile):
                disk.drop(name)
        self.assertEqual(told(disk), before)
        self.assertEqual([told(disk.cut(many)) for many in range(4)], [
            ([], [], 0), (["a"], [[1]], 1), (["a", "b"], [[1], [1]], 2), (["a"], [[1]], 3),
        ])

    def test_copies_both_ways(self):
        disk = Disk()
        row = [1, 2]
        disk.put("a", row)
        row.append(3)
        self.assertEqual(disk.read("a"), [1, 2])
        disk.read("a").clear()
        disk.names().clear()
        self.assertEqual(told(disk), (["a"], [[1, 2]], 1))
        disk.put("b", (3, 4))
        self.assertEqual(disk.read("b"), [3, 4])
        self.assertIsInstance(disk.read("b"), list)
        cut = disk.cut(1)
        row.clear()
        cut.read("a").clear()
        self.assertEqual((cut.read("a"), disk.read("a")), ([1, 2], [1, 2]))


class CutTest(unittest.TestCase):
    def test_each_number_of_writes(self):
        disk = Disk()
        stood = [told(disk)]
        for name, row in [("b", [1]), ("a", [2]), ("b", [3]), ("a", None), ("c", [4]), ("b", None), ("a", [5])]:
            if row is None:
                disk.drop(name)
            else:
                disk.put(name, row)
            stood.append(told(disk))
        for many in range(8):
            cut = disk.cut(many)
            self.assertIsInstance(cut, Disk)
            self.assertEqual(told(cut), stood[many])
            self.assertEqual(told(disk.cut(many=many)), stood[many])
            for fewer in range(many + 1):
                self.assertEqual(told(cut.cut(fewer)), stood[fewer])
        self.assertEqual(told(disk), stood[7])

    def test_it_goes_on_by_itself(self):
        disk = Disk()
        disk.put("a", [1])
        disk.put("b", [2])
        cut, whole = disk.cut(1), disk.cut(2)
        cut.put("c", [3])
        cut.drop("a")
        disk.drop("b")
        self.assertEqual(told(cut), (["c"], [[3]], 3))
        self.assertEqual(told(cut.cut(2)), (["a", "c"], [[1], [3]], 2))
        self.assertEqual(told(disk), (["a"], [[1]], 3))
        self.assertEqual(told(whole), (["a", "b"], [[1], [2]], 2))

    def test_numbers_below_and_above(self):
        disk = Disk()
        for many in range(3):
            before = told(disk)
            for wrong in NO_NUMBERS + [many + 1, many + 2]:
                with self.assertRaises(NoFile):
                    disk.cut(wrong)
            self.assertEqual(told(disk), before)
            self.assertEqual(told(disk.cut(many)), before)
            disk.put("a", [many])

    def test_of_many_writes(self):
        chance = random.Random(51)
        for _ in range(60):
            disk = Disk()
            stood = [told(disk)]
            for _ in range(chance.randrange(25)):
                name = chance.choice("abc")
                if name in disk.names() and chance.randrange(2):
                    disk.drop(name)
                else:
                    disk.put(name, chance.choices(range(256), k=chance.randrange(4)))
                stood.append(told(disk))
            at = chance.randrange(len(stood))
            cut = disk.cut(at)
            cut.put("z", [0])
            for many, wanted in enumerate(stood):
                self.assertEqual(told(disk.cut(many)), wanted)
                if many <= at:
                    self.assertEqual(told(cut.cut(many)), wanted)
