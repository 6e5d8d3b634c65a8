"""Maps between algebras (point 11)."""

import itertools
import unittest

from equalkin.algebras import Algebra, ChainAlgebra, PickAlgebra, SetAlgebra, TurnAlgebra, made_algebra
from equalkin.errors import (
    BadImages, EqualkinError, MixedAlgebras, MixedSigns, NameMissing, NotKept, UnknownMember,
)
from equalkin.maps import Map, all_maps, product, renaming
from tests.samples import SIGNATURES, data_of, renamed, scattered, tuples

TWO, FOUR, SIX = TurnAlgebra(2), TurnAlgebra(4), TurnAlgebra(6)


def first_not_kept(source, target, images):
    """Return the first operation and its first arguments that the images do not keep, and None."""
    image = dict(zip(source.members(), images))
    for sign, arity in source.signature:
        for row in tuples(source.members(), arity):
            if image[source.value(sign, row)] != target.value(sign, [image[name] for name in row]):
                return sign, row
    return None


def kept_rows(source, target):
    rows = itertools.product(target.members(), repeat=len(source))
    return [list(row) for row in rows if first_not_kept(source, target, row) is None]


class Failing(unittest.TestCase):
    def raises(self, error, told, call, *given):
        with self.assertRaises(error) as caught:
            call(*given)
        self.assertIs(type(caught.exception), error)
        for name, value in told.items():
            self.assertEqual(getattr(caught.exception, name), value)


class Made(Failing):
    def test_told_example(self):
        m = Map(FOUR, TWO, ["0", "1", "0", "1"])
        self.assertIs(m.source, FOUR)
        self.assertIs(m.target, TWO)
        self.assertEqual(m.images(), ["0", "1", "0", "1"])
        self.assertEqual([m(name) for name in FOUR.members()], ["0", "1", "0", "1"])

    def test_images_as_a_tuple(self):
        self.assertEqual(Map(FOUR, TWO, ("0", "1", "0", "1")), Map(FOUR, TWO, ["0", "1", "0", "1"]))

    def test_call_of_no_member(self):
        m = Map(FOUR, TWO, ["0", "1", "0", "1"])
        for name in ("4", "", "x", "zero"):
            self.raises(UnknownMember, {"name": name}, m, name)
        # A member of the target alone is none of the source.
        into = Map(TWO, FOUR, ["0", "2"])
        self.raises(UnknownMember, {"name": "2"}, into, "2")
        self.assertEqual(into("1"), "2")

    def test_mixed_signs(self):
        self.raises(MixedSigns, {}, Map, TWO, ChainAlgebra(2), ["0", "1"])
        self.raises(MixedSigns, {}, Map, PickAlgebra(1), made_algebra(["0"], []), ["0"])
        self.raises(MixedSigns, {}, Map, ChainAlgebra(2), TWO, [])

    def test_bad_images(self):
        for images in ([], ["0"], ["0", "1", "0"], ["0", "1", "0", "1", "0"], ["9"]):
            self.raises(BadImages, {}, Map, FOUR, TWO, images)
        self.raises(BadImages, {}, Map, FOUR, TWO, ())
        bare = made_algebra(["a", "b"], [])
        self.raises(BadImages, {}, Map, bare, bare, ["a"])

    def test_unknown_member(self):
        self.raises(UnknownMember, {"name": "2"}, Map, FOUR, TWO, ["0", "2", "3", "1"])
        self.raises(UnknownMember, {"name": "x"}, Map, FOUR, TWO, ("0", "1", "0", "x"))

    def test_not_kept(self):
        self.raises(NotKept, {"sign": "add", "arguments": ("0", "0")}, Map, FOUR, TWO, ["1", "1", "0", "1"])
        self.raises(NotKept, {"sign": "add", "arguments": ("1", "1")}, Map, FOUR, TWO, ["0", "1", "1", "1"])
        self.raises(NotKept, {"sign": "add", "arguments": ("1", "2")}, Map, FOUR, TWO, ["0", "1", "0", "0"])
        self.raises(NotKept, {"sign": "low", "arguments": ("0", "1")}, Map, ChainAlgebra(2), ChainAlgebra(2), ["1", "0"])
        names = ["a", "b"]
        source = Algebra(names, [("g", 1, names), ("c", 0, ["a"]), ("d", 0, ["b"])])
        self.raises(NotKept, {"sign": "c", "arguments": ()}, Map, source, source, ["b", "a"])
        self.raises(NotKept, {"sign": "d", "arguments": ()}, Map, source, source, ["a", "a"])

    def test_order_of_the_errors(self):
        # Each one is looked at ahead of those that stand below it, which are true, too.
        self.raises(MixedSigns, {}, Map, TWO, ChainAlgebra(2), ["7"])
        self.raises(MixedSigns, {}, Map, TWO, ChainAlgebra(2), ["7", "7"])
        self.raises(BadImages, {}, Map, TWO, TWO, ["7"])
        self.raises(BadImages, {}, Map, TWO, TWO, ["1", "1", "7"])
        self.raises(UnknownMember, {"name": "7"}, Map, TWO, TWO, ["1", "7"])

    def test_each_list_of_images(self):
        for signature in SIGNATURES:
            for seed, first, second in ((1, 2, 3), (2, 3, 2), (0, 3, 3), (1, 1, 2), (2, 4, 2)):
                source, target = scattered(seed, first, signature), scattered(seed + 1, second, signature)
                for images in itertools.product(target.members(), repeat=first):
                    fault = first_not_kept(source, target, images)
                    if fault is None:
                        self.assertEqual(Map(source, target, images).images(), list(images))
                    else:
                        told = {"sign": fault[0], "arguments": fault[1]}
                        self.raises(NotKept, told, Map, source, target, images)

    def test_kinds_of_errors(self):
        for error in (MixedSigns, BadImages, NotKept, MixedAlgebras):
            self.assertEqual(error.__bases__, (EqualkinError,))
        self.assertEqual(UnknownMember.__bases__, (NameMissing,))

    def test_keeps_nothing_that_is_passed(self):
        images, before = ["0", "1", "0", "1"], data_of(FOUR)
        m = Map(FOUR, TWO, images)
        images[1] = "0"
        self.assertEqual(m("1"), "1")
        m.images().clear()
        self.assertEqual(m.images(), ["0", "1", "0", "1"])
        self.assertEqual(data_of(FOUR), before)


class Then(Failing):
    def test_leads_by_both(self):
        first = Map(TurnAlgebra(6), SIX, ["0", "2", "4", "0", "2", "4"])
        second = Map(SIX, TurnAlgebra(3), ["0", "1", "2", "0", "1", "2"])
        both = first >> second
        self.assertIsInstance(both, Map)
        self.assertEqual(both.images(), ["0", "2", "1", "0", "2", "1"])
        self.assertEqual(both("4"), "2")
        self.assertEqual(both.source, SIX)
        self.assertEqual(both.target, TurnAlgebra(3))
        self.assertIs(both.source, first.source)
        self.assertIs(both.target, second.target)

    def test_order_and_what_stays(self):
        into, onto = Map(TWO, FOUR, ["0", "2"]), Map(FOUR, TWO, ["0", "1", "0", "1"])
        self.assertEqual((into >> onto).images(), ["0", "0"])
        self.assertEqual((onto >> into).images(), ["0", "2", "0", "2"])
        self.assertEqual(into.images(), ["0", "2"])
        self.assertEqual(onto.images(), ["0", "1", "0", "1"])
        self.assertEqual((onto >> into >> onto).images(), ["0", "0", "0", "0"])

    def test_the_middle_algebra_may_be_another_object(self):
        made = made_algebra(["0", "1", "2", "3"], [
            (sign, arity, data_of(FOUR)[2][sign]) for sign, arity in FOUR.signature
        ])
        both = Map(TWO, FOUR, ["0", "2"]) >> Map(made, TWO, ["0", "1", "0", "1"])
        self.assertEqual(both, Map(TWO, TWO, ["0", "0"]))

    def test_mixed_algebras(self):
        one = Map(FOUR, TWO, ["0", "1", "0", "1"])
        with self.assertRaises(MixedAlgebras):
            one >> one
        turned = renamed(TWO, {"0": "0", "1": "1"}, ["1", "0"])
        with self.assertRaises(MixedAlgebras):
            one >> Map.same(turned)
        with self.assertRaises(MixedAlgebras):
            Map.same(TWO) >> Map.same(ChainAlgebra(2))
        with self.assertRaises(MixedAlgebras):
            Map.same(TWO) >> Map(FOUR, TWO, ["0", "1", "0", "1"])

    def test_same_on_either_side(self):
        m = Map(FOUR, TWO, ["0", "1", "0", "1"])
        self.assertEqual(Map.same(FOUR) >> m, m)
        self.assertEqual(m >> Map.same(TWO), m)


class Equal(Failing):
    def test_other_maps(self):
        m = Map(FOUR, FOUR, ["0", "3", "2", "1"])
        self.assertTrue(m == m)
        self.assertTrue(m == Map(TurnAlgebra(4), TurnAlgebra(4), ["0", "3", "2", "1"]))
        self.assertFalse(m != Map(TurnAlgebra(4), TurnAlgebra(4), ("0", "3", "2", "1")))
        self.assertFalse(m == Map.same(FOUR))
        self.assertTrue(m != Map.same(FOUR))
        self.assertIs(m == Map.same(FOUR), False)
        self.assertIs(m == m, True)

    def test_other_source_or_target(self):
        one = made_algebra(["a"], [("c", 0, ["a"])])
        two = made_algebra(["a", "b"], [("c", 0, ["a"])])
        turned = made_algebra(["b", "a"], [("c", 0, ["a"])])
        self.assertFalse(Map(one, one, ["a"]) == Map(one, two, ["a"]))
        self.assertFalse(Map(two, two, ["a", "a"]) == Map(two, one, ["a", "a"]))
        self.assertFalse(Map(two, one, ["a", "a"]) == Map(one, one, ["a"]))
        # The members and images agree one by one, but the sources' orders do not.
        self.assertFalse(Map(two, one, ["a", "a"]) == Map(turned, one, ["a", "a"]))
        self.assertFalse(Map(two, two, ["a", "b"]) == Map(turned, two, ["b", "a"]))
        self.assertFalse(Map(two, two, ["a", "b"]) == Map(two, turned, ["a", "b"]))

    def test_what_is_no_map(self):
        m = Map.same(TWO)
        for thing in (None, 0, "0", ["0", "1"], ("0", "1"), {"0": "0"}, TWO, object(), True, m.images()):
            self.assertIs(m == thing, False)
            self.assertIs(m != thing, True)


class Same(Failing):
    def test_each_member_to_itself(self):
        for algebra in (FOUR, ChainAlgebra(3), SetAlgebra(2), product(TWO, TWO), made_algebra(["b", "a"], [])):
            m = Map.same(algebra)
            self.assertIsInstance(m, Map)
            self.assertIs(m.source, algebra)
            self.assertIs(m.target, algebra)
            self.assertEqual(m.images(), algebra.members())
            self.assertEqual(m, Map(algebra, algebra, algebra.members()))


class All(Failing):
    def test_told_examples(self):
        self.assertEqual([m.images() for m in all_maps(TWO, FOUR)], [["0", "0"], ["0", "2"]])
        self.assertEqual([m.images() for m in all_maps(ChainAlgebra(2), ChainAlgebra(3))], [
            ["0", "0"], ["0", "1"], ["0", "2"], ["1", "1"], ["1", "2"], ["2", "2"],
        ])
        self.assertEqual([m.images() for m in all_maps(FOUR, TWO)], [["0", "0", "0", "0"], ["0", "1", "0", "1"]])
        for m in all_maps(FOUR, TWO):
            self.assertIs(type(m), Map)
            self.assertIs(m.source, FOUR)
            self.assertIs(m.target, TWO)
            self.assertEqual(m, Map(FOUR, TWO, m.images()))
            self.assertEqual(m("3"), m.images()[3])
            self.raises(UnknownMember, {"name": "4"}, m, "4")

    def test_the_order_is_that_of_the_targets_places(self):
        target = made_algebra(["b", "a"], [])
        self.assertEqual([m.images() for m in all_maps(made_algebra(["x", "y"], []), target)], [
            ["b", "b"], ["b", "a"], ["a", "b"], ["a", "a"],
        ])

    def test_none(self):
        swap = made_algebra(["a", "b"], [("g", 1, ["b", "a"])])
        self.assertEqual(all_maps(made_algebra(["c"], [("g", 1, ["c"])]), swap), [])
        apart = made_algebra(["a", "b"], [("c", 0, ["a"]), ("d", 0, ["b"])])
        self.assertEqual(all_maps(made_algebra(["c"], [("c", 0, ["c"]), ("d", 0, ["c"])]), apart), [])
        self.assertEqual(len(all_maps(apart, made_algebra(["c"], [("c", 0, ["c"]), ("d", 0, ["c"])]))), 1)

    def test_each_pair_of_algebras(self):
        for signature in SIGNATURES:
            for first, second in itertools.product(range(1, 5), range(1, 4)):
                source, target = scattered(first, first, signature), scattered(second, second, signature)
                self.assertEqual([m.images() for m in all_maps(source, target)], kept_rows(source, target))
                self.assertEqual([m.images() for m in all_maps(source, source)], kept_rows(source, source))

    def test_five_thousand_ways(self):
        self.assertEqual(len(all_maps(PickAlgebra(5), PickAlgebra(5))), 3125)
        picks = product(PickAlgebra(2), PickAlgebra(6))
        self.assertEqual(len(all_maps(picks, PickAlgebra(2))), 4096)
        bare = made_algebra([str(number) for number in range(70)], [])
        maps = all_maps(made_algebra(["a", "b"], []), bare)
        self.assertEqual(len(maps), 4900)
        self.assertEqual(maps[71].images(), ["1", "1"])
        self.assertEqual(len(all_maps(made_algebra(["a"], [("g", 1, ["a"])]), PICKED)), 2500)
        large = product(product(FOUR, FOUR), FOUR)
        self.assertEqual(len(all_maps(large, TurnAlgebra(1))), 1)
        self.assertEqual(len(all_maps(TurnAlgebra(1), large)), 1)

    def test_mixed_signs(self):
        self.raises(MixedSigns, {}, all_maps, TWO, ChainAlgebra(2))
        self.raises(MixedSigns, {}, all_maps, made_algebra(["0"], []), PickAlgebra(1))

    def test_of_the_callers(self):
        told, before = all_maps(TWO, FOUR), data_of(FOUR)
        told[0].images().clear()
        self.assertEqual(told[0].images(), ["0", "0"])
        told.clear()
        self.assertEqual(len(all_maps(TWO, FOUR)), 2)
        self.assertEqual(data_of(FOUR), before)


# Half of its 5000 members are led to themselves.
PICKED = made_algebra(
    [str(number) for number in range(5000)],
    [("g", 1, [str(number - number % 2) for number in range(5000)])],
)


class Renaming(Failing):
    def is_renaming(self, m, first, second):
        self.assertIs(type(m), Map)
        self.assertIs(m.source, first)
        self.assertIs(m.target, second)
        self.assertEqual(sorted(m.images()), sorted(second.members()))
        self.assertIsNone(first_not_kept(first, second, m.images()))
        self.assertEqual(m, Map(first, second, m.images()))

    def test_members_named_anew_in_another_order(self):
        for signature in SIGNATURES:
            for count, seed in itertools.product(range(1, 6), range(4)):
                algebra = scattered(seed, count, signature)
                names = algebra.members()
                images = {name: f"n{(place * 3 + seed) % 11}" for place, name in enumerate(names)}
                other = renamed(algebra, images, names[seed % count:] + names[:seed % count])
                self.is_renaming(renaming(algebra, other), algebra, other)
                self.is_renaming(renaming(other, algebra), other, algebra)

    def test_families(self):
        for algebra in (FOUR, SIX, ChainAlgebra(5), PickAlgebra(6), SetAlgebra(2)):
            names = algebra.members()
            other = renamed(algebra, dict(zip(names, names[1:] + names[:1])), names[::-1])
            self.is_renaming(renaming(algebra, other), algebra, other)
        six = product(TWO, TurnAlgebra(3))
        self.is_renaming(renaming(six, SIX), six, SIX)

    def test_none(self):
        self.assertIsNone(renaming(FOUR, product(TWO, TWO)))
        self.assertIsNone(renaming(product(TWO, TWO), FOUR))
        self.assertIsNone(renaming(FOUR, TWO))
        self.assertIsNone(renaming(TWO, FOUR))
        self.assertIsNone(renaming(PickAlgebra(2), PickAlgebra(3)))
        self.assertIsNone(renaming(
            made_algebra(["a", "b"], [("g", 1, ["b", "a"])]), made_algebra(["a", "b"], [("g", 1, ["a", "b"])])))

    def test_each_pair_of_algebras(self):
        for signature in SIGNATURES:
            for first, second, count in itertools.product(range(4), range(4), range(2, 4)):
                one, other = scattered(first, count, signature), scattered(second, count, signature)
                found = [row for row in kept_rows(one, other) if len(set(row)) == count]
                m = renaming(one, other)
                self.assertEqual(m is None, not found)
                if found:
                    self.is_renaming(m, one, other)

    def test_mixed_signs(self):
        self.raises(MixedSigns, {}, renaming, TWO, ChainAlgebra(2))
        # Also where the numbers of members would tell that there is none.
        self.raises(MixedSigns, {}, renaming, TWO, ChainAlgebra(3))

    def test_changes_nothing(self):
        before = data_of(FOUR)
        m = renaming(FOUR, FOUR)
        m.images().clear()
        self.assertEqual(len(m.images()), 4)
        self.assertEqual(data_of(FOUR), before)


if __name__ == "__main__":
    unittest.main()
