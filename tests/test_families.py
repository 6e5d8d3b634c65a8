"""The families of algebras (point 3)."""

import unittest

from equalkin.algebras import Algebra, ChainAlgebra, PickAlgebra, SetAlgebra, TurnAlgebra, made_algebra
from equalkin.errors import BadAlgebra


def numbers(count):
    return [str(number) for number in range(count)]


def by_pairs(count, work):
    return [str(work(one, two)) for one in range(count) for two in range(count)]


def turn(count):
    backs = ["0"] + [str(count - one) for one in range(1, count)]
    sums = by_pairs(count, lambda one, two: (one + two) % count)
    return numbers(count), [("add", 2, sums), ("back", 1, backs), ("zero", 0, ["0"])]


def chain(count):
    return numbers(count), [("low", 2, by_pairs(count, min)), ("high", 2, by_pairs(count, max))]


def pick(count):
    return numbers(count), [("pick", 2, by_pairs(count, lambda one, two: one))]


FAMILIES = ((TurnAlgebra, turn), (ChainAlgebra, chain), (PickAlgebra, pick))


class Families(unittest.TestCase):
    def same(self, algebra, members, operations):
        self.assertIsInstance(algebra, Algebra)
        self.assertEqual(algebra.members(), members)
        self.assertEqual(len(algebra), len(members))
        self.assertEqual(algebra.signature, tuple((sign, arity) for sign, arity, _ in operations))
        for sign, arity, values in operations:
            rows = [[]]
            for _ in range(arity):
                rows = [row + [name] for row in rows for name in members]
            self.assertEqual([algebra.value(sign, row) for row in rows], values)
        for other in (Algebra(members, operations), made_algebra(members, operations)):
            self.assertIs(algebra == other, True)
            self.assertIs(other == algebra, True)

    def test_all_counts_from_1_to_6(self):
        for family, told in FAMILIES:
            for count in range(1, 7):
                self.same(family(count), *told(count))

    def test_counts_outside(self):
        for family, _ in FAMILIES:
            for count in (0, 7, -1, 8, 100):
                self.assertRaises(BadAlgebra, family, count)
        for count in (0, 3, -1, 4, 6):
            self.assertRaises(BadAlgebra, SetAlgebra, count)

    def test_some_values(self):
        five = TurnAlgebra(5)
        self.assertEqual(five.value("add", ["3", "4"]), "2")
        self.assertEqual(five.value("back", ["2"]), "3")
        self.assertEqual(five.value("back", ["0"]), "0")
        self.assertEqual(five.value("zero", []), "0")
        self.assertEqual(ChainAlgebra(6).value("low", ["4", "2"]), "2")
        self.assertEqual(ChainAlgebra(6).value("high", ["4", "2"]), "4")
        self.assertEqual(PickAlgebra(3).value("pick", ["2", "1"]), "2")
        self.assertEqual(SetAlgebra(2).value("or", ["01", "10"]), "11")
        self.assertEqual(SetAlgebra(2).value("and", ["01", "11"]), "01")
        self.assertEqual(SetAlgebra(2).value("not", ["01"]), "10")

    def test_sets_of_one(self):
        self.same(SetAlgebra(1), ["0", "1"], [
            ("and", 2, ["0", "0", "0", "1"]), ("or", 2, ["0", "1", "1", "1"]), ("not", 1, ["1", "0"]),
            ("none", 0, ["0"]), ("all", 0, ["1"]),
        ])

    def test_sets_of_two(self):
        self.same(SetAlgebra(2), ["00", "01", "10", "11"], [
            ("and", 2, "00 00 00 00 00 01 00 01 00 00 10 10 00 01 10 11".split()),
            ("or", 2, "00 01 10 11 01 01 11 11 10 11 10 11 11 11 11 11".split()),
            ("not", 1, ["11", "10", "01", "00"]), ("none", 0, ["00"]), ("all", 0, ["11"]),
        ])

    def test_members_belong_to_the_caller(self):
        for family in (TurnAlgebra, ChainAlgebra, PickAlgebra, SetAlgebra):
            algebra = family(2)
            algebra.members().clear()
            self.assertEqual(algebra, family(2))
            self.assertEqual(len(algebra.members()), len(algebra))


if __name__ == "__main__":
    unittest.main()
