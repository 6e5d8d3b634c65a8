"""Products of algebras (point 10)."""

import unittest

from equalkin.algebras import Algebra, ChainAlgebra, PickAlgebra, SetAlgebra, TurnAlgebra, made_algebra
from equalkin.errors import MixedSigns, TooMany
from equalkin.maps import Map, product, renaming
from equalkin.parts import closed, part
from tests.samples import SIGNATURES, data_of, scattered, tuples


class Product(unittest.TestCase):
    def raises(self, error, first, second):
        with self.assertRaises(error) as caught:
            product(first, second)
        self.assertIs(type(caught.exception), error)

    def fits(self, first, second):
        made = product(first, second)
        pairs = [(one, two) for one in first.members() for two in second.members()]
        name_of = {pair: pair[0] + "/" + pair[1] for pair in pairs}
        self.assertEqual(made.members(), list(name_of.values()))
        self.assertEqual(len(made), len(pairs))
        self.assertEqual(made.signature, first.signature)
        for sign, arity in first.signature:
            for row in tuples(pairs, arity):
                one = first.value(sign, [pair[0] for pair in row])
                two = second.value(sign, [pair[1] for pair in row])
                self.assertEqual(made.value(sign, [name_of[pair] for pair in row]), name_of[one, two])

    def test_told_example(self):
        first = Algebra(["b", "a"], [("f", 2, ["a", "b", "b", "b"]), ("g", 1, ["a", "a"]), ("c", 0, ["a"])])
        second = Algebra(["x", "y"], [("f", 2, ["x", "x", "y", "y"]), ("g", 1, ["y", "x"]), ("c", 0, ["x"])])
        made = product(first, second)
        self.assertIsInstance(made, Algebra)
        self.assertEqual(made.members(), ["b/x", "b/y", "a/x", "a/y"])
        self.assertEqual(made.signature, (("f", 2), ("g", 1), ("c", 0)))
        self.assertEqual(made.value("f", ["b/y", "b/x"]), "a/y")
        self.assertEqual(made.value("f", ["b/x", "a/y"]), "b/x")
        self.assertEqual(made.value("g", ["b/x"]), "a/y")
        self.assertEqual(made.value("c", []), "a/x")

    def test_values(self):
        for signature in SIGNATURES:
            for one, two in ((1, 1), (1, 3), (3, 1), (2, 4), (5, 3)):
                self.fits(scattered(1, one, signature), scattered(2, two, signature))
        self.fits(TurnAlgebra(6), TurnAlgebra(4))
        self.fits(ChainAlgebra(2), ChainAlgebra(5))
        self.fits(PickAlgebra(3), PickAlgebra(2))
        self.fits(SetAlgebra(2), SetAlgebra(1))

    def test_of_products(self):
        two, three = TurnAlgebra(2), TurnAlgebra(3)
        made = product(product(two, three), two)
        self.assertEqual(made.members()[:3], ["0/0/0", "0/0/1", "0/1/0"])
        self.assertEqual(made.value("add", ["1/2/1", "1/2/0"]), "0/1/1")
        self.assertEqual(made, product(two, product(three, two)))
        self.fits(product(two, three), product(two, two))
        self.assertNotEqual(made, product(product(three, two), two))
        self.assertIsNotNone(renaming(product(two, two), product(two, two)))

    def test_an_algebra_like_others(self):
        made = product(TurnAlgebra(2), TurnAlgebra(2))
        self.assertEqual(closed(made, ["1/1"]), ["0/0", "1/1"])
        self.assertEqual(part(made, ["0/0", "1/1"]).members(), ["0/0", "1/1"])
        first = Map(made, TurnAlgebra(2), ["0", "0", "1", "1"])
        self.assertEqual(first("1/0"), "1")

    def test_mixed_signs(self):
        self.raises(MixedSigns, TurnAlgebra(2), ChainAlgebra(2))
        self.raises(MixedSigns, PickAlgebra(1), made_algebra(["0"], []))
        one = made_algebra(["a"], [("f", 1, ["a"]), ("g", 1, ["a"])])
        other = made_algebra(["a"], [("g", 1, ["a"]), ("f", 1, ["a"])])
        self.raises(MixedSigns, one, other)
        self.raises(MixedSigns, made_algebra(["a"], [("f", 1, ["a"])]), made_algebra(["a"], [("f", 2, ["a"])]))

    def test_sixty_four_members_and_more(self):
        four = TurnAlgebra(4)
        sixteen = product(four, four)
        self.assertEqual(len(product(sixteen, four)), 64)
        self.raises(TooMany, sixteen, TurnAlgebra(5))
        self.raises(TooMany, TurnAlgebra(5), product(four, four))
        bare = {count: made_algebra([str(number) for number in range(count)], []) for count in (1, 5, 8, 13, 64, 65)}
        self.assertEqual(len(product(bare[8], bare[8])), 64)
        self.assertEqual(len(product(bare[1], bare[64])), 64)
        self.raises(TooMany, bare[5], bare[13])
        self.raises(TooMany, bare[65], bare[1])
        self.raises(TooMany, bare[1], bare[65])

    def test_mixed_signs_ahead_of_too_many(self):
        large = made_algebra([str(number) for number in range(65)], [])
        self.raises(MixedSigns, large, PickAlgebra(2))

    def test_changes_nothing(self):
        first, second = TurnAlgebra(2), TurnAlgebra(3)
        before = data_of(first), data_of(second)
        product(first, second).members().clear()
        self.assertEqual((data_of(first), data_of(second)), before)


if __name__ == "__main__":
    unittest.main()
