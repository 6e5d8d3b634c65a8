"""Maps from free algebras (point 17)."""

import itertools
import unittest

from equalkin.algebras import ChainAlgebra, PickAlgebra, SetAlgebra, TurnAlgebra, made_algebra
from equalkin.equations import fails
from equalkin.errors import BadImages, MixedSigns, NotKin, UnknownMember
from equalkin.free import Free
from equalkin.maps import Map, product
from equalkin.terms import check_term, unknowns
from tests.samples import SIGNATURES, Failing, data_of, depth_of, many_parts, scattered, tuples, value_of
from tests.test_free import FREE_ONES, climbing, turning

SIX, TWO = TurnAlgebra(6), TurnAlgebra(2)


def pairs_made(first, starts, second, images):
    """Return all pairs of values that a term has in two algebras at once, without the functions of the program."""
    pairs = set(zip(starts, images))
    while True:
        made = {
            (first.value(sign, [pair[0] for pair in row]), second.value(sign, [pair[1] for pair in row]))
            for sign, arity in first.signature for row in tuples(sorted(pairs), arity)
        }
        if made <= pairs:
            return pairs
        pairs |= made


class Lifting(Failing):
    def lifts(self, free, target, images):
        m = free.lift(target, images)
        self.assertIsInstance(m, Map)
        self.assertEqual((m.source, m.target), (free.algebra, target))
        self.assertEqual([m(name) for name in free.unknowns()], list(images))
        values = {f"x{number}": image for number, image in enumerate(images)}
        for name in free.algebra.members():
            self.assertEqual(m(name), value_of(target, free.term(name), values))
        return m

    def unlike(self, free, target, images):
        """See that NotKin tells two terms that give one row and have unlike values in target at the images."""
        with self.assertRaises(NotKin) as caught:
            free.lift(target, images)
        self.assertIs(type(caught.exception), NotKin)
        left, right = caught.exception.left, caught.exception.right
        values = {f"x{number}": image for number, image in enumerate(images)}
        for term in (left, right):
            check_term(free.base, term)
            self.assertLessEqual(set(unknowns(term)), set(values))
            self.assertLessEqual(many_parts(term), 2000)
            self.assertLessEqual(depth_of(term), 40)
        self.assertEqual(free.member(left), free.member(right))
        self.assertIsNone(fails(free.base, left, right))
        self.assertNotEqual(value_of(target, left, values), value_of(target, right, values))
        return left, right


class Lift(Lifting):
    def test_told_examples(self):
        free = Free(SIX, 1)
        self.assertEqual(self.lifts(free, TurnAlgebra(3), ["2"])("t0"), "2")
        self.lifts(Free(SIX, 2), SIX, ["4", "3"])
        self.lifts(Free(TWO, 2), product(TWO, TWO), ("0/1", "1/1"))
        self.lifts(Free(ChainAlgebra(2), 3), ChainAlgebra(5), ["4", "1", "1"])
        self.lifts(Free(SetAlgebra(1), 2), SetAlgebra(2), ["01", "10"])
        self.lifts(Free(PickAlgebra(2), 2), PickAlgebra(6), ["5", "2"])

    def test_to_itself(self):
        for algebra, count in FREE_ONES[::3]:
            free = Free(algebra, count)
            self.assertEqual(free.lift(free.algebra, free.unknowns()), Map.same(free.algebra))
            for images in list(itertools.product(algebra.members(), repeat=count))[::7]:
                m = self.lifts(free, algebra, images)
                place = list(itertools.product(algebra.members(), repeat=count)).index(images)
                self.assertEqual(m.images(), [free.row(name)[place] for name in free.algebra.members()])

    def test_not_kin(self):
        self.unlike(Free(TurnAlgebra(3), 1), SIX, ["1"])
        self.unlike(Free(TurnAlgebra(4), 2), SIX, ["3", "4"])
        self.lifts(Free(TurnAlgebra(4), 2), SIX, ["3", "3"])
        self.unlike(Free(ChainAlgebra(2), 2), pick_low(), ["0", "1"])
        turned = made_algebra(["a", "b"], [("pick", 2, ["a", "b", "a", "b"])])
        self.unlike(Free(PickAlgebra(2), 2), turned, ["a", "b"])

    def test_unknowns_with_one_row(self):
        one = made_algebra(["a"], [("g", 1, ["a"])])
        free = Free(one, 3)
        ring = turning(3)
        self.assertEqual(self.unlike(free, made_algebra(["0", "1"], [("g", 1, ["0", "1"])]), ["0", "0", "1"]), ("x0", "x2"))
        self.unlike(free, ring, ["0", "1", "1"])
        # Images that are equal do not help where the operation moves them.
        self.unlike(free, ring, ["1", "1", "1"])
        self.lifts(free, made_algebra(["0", "1"], [("g", 1, ["0", "1"])]), ["1", "1", "1"])
        self.unlike(Free(made_algebra(["a"], []), 2), made_algebra(["a", "b"], []), ["b", "a"])
        self.lifts(Free(made_algebra(["a"], []), 2), made_algebra(["a", "b"], []), ["b", "b"])

    def test_no_unknowns(self):
        self.assertEqual(self.lifts(Free(SIX, 0), TurnAlgebra(3), []).images(), ["0"])
        first = made_algebra(["a", "b"], [("k", 0, ["a"]), ("g", 1, ["b", "b"])])
        second = made_algebra(["p", "q", "r"], [("k", 0, ["p"]), ("g", 1, ["q", "r", "r"])])
        self.unlike(Free(first, 0), second, [])
        self.lifts(Free(second, 0), first, ())
        self.unlike(Free(made_algebra(["a"], [("k", 0, ["a"]), ("l", 0, ["a"])]), 0), made_algebra(
            ["a", "b"], [("k", 0, ["a"]), ("l", 0, ["b"])]), [])

    def test_drawn_ones_against_all_pairs_of_values(self):
        seen = {True: 0, False: 0}
        for number, (algebra, count) in enumerate(FREE_ONES):
            free = Free(algebra, count)
            if algebra.signature in SIGNATURES:
                targets = [scattered(number + seed, 2 + seed, algebra.signature) for seed in range(3)]
            else:
                targets = [type(algebra)(2)]
            for target in targets:
                for images in list(itertools.product(target.members(), repeat=count))[::5]:
                    pairs = pairs_made(free.algebra, free.unknowns(), target, images)
                    right = len(pairs) == len(free.algebra)
                    seen[right] += 1
                    if right:
                        self.assertEqual(dict(pairs), dict(zip(
                            free.algebra.members(), self.lifts(free, target, images).images())))
                    else:
                        self.unlike(free, target, images)
        self.assertGreater(min(seen.values()), 20)

    def test_errors_in_order(self):
        free = Free(SIX, 2)
        for images in ([], ["9"], ["0", "9"], ["0", "1"], ["0", "1", "2"]):
            self.raises(MixedSigns, {}, free.lift, ChainAlgebra(2), images)
            self.raises(MixedSigns, {}, free.lift, made_algebra(["0", "1"], []), images)
        for images in ([], ["0"], ["9"], ["9", "8", "7"], ["0", "0", "0"], ()):
            self.raises(BadImages, {}, free.lift, TurnAlgebra(3), images)
        self.raises(BadImages, {}, Free(SIX, 0).lift, SIX, ["0"])
        self.raises(UnknownMember, {"name": "3"}, free.lift, TurnAlgebra(3), ["3", "4"])
        self.raises(UnknownMember, {"name": "4"}, free.lift, TurnAlgebra(3), ["2", "4"])
        # Ahead of NotKin, which x0 alone would show, or the two images.
        self.raises(UnknownMember, {"name": "t0"}, free.lift, TurnAlgebra(5), ["1", "t0"])
        self.raises(UnknownMember, {"name": "t0"}, Free(TurnAlgebra(1), 3).lift, TurnAlgebra(5), ["0", "1", "t0"])
        self.raises(UnknownMember, {"name": "9"}, Free(TurnAlgebra(1), 3).lift, TurnAlgebra(5), ["0", "9", "8"])
        self.unlike(free, TurnAlgebra(5), ["1", "0"])
        turned = made_algebra(["0"], [("zero", 0, ["0"]), ("back", 1, ["0"]), ("add", 2, ["0"])])
        self.raises(MixedSigns, {}, free.lift, turned, ["0", "0"])

    def test_what_is_handed_in_stays(self):
        free, images, before = Free(SIX, 2), ["4", "3"], data_of(SIX)
        m = free.lift(SIX, images)
        told = m.images()
        images.clear()
        told.clear()
        self.assertEqual((m("t0"), m("t1"), len(m.images())), ("4", "3", 36))
        self.assertEqual(data_of(SIX), before)


def pick_low():
    """Return an algebra of the signature of chains in which "low" tells the first argument."""
    return made_algebra(["0", "1"], [("low", 2, ["0", "0", "1", "1"]), ("high", 2, ["0", "1", "1", "1"])])


class Greatness(Lifting):
    """The told terms have few parts and signs in one another where there are such that are right."""

    def test_rings(self):
        # The equation of a ring of 40 is told, though it is as deep as may be.
        self.assertEqual(depth_of(max(self.unlike(Free(turning(40), 1), turning(41), ["0"]), key=depth_of)), 40)
        for count in (41, 47, 48):
            with self.assertRaises(NotKin) as caught:
                Free(turning(count), 1).lift(turning(count - 1), ["0"])
            terms = [caught.exception.left, caught.exception.right]
            self.assertEqual((max(map(depth_of, terms)) - min(map(depth_of, terms))) % count, 0)
            self.assertNotEqual(depth_of(terms[0]), depth_of(terms[1]))

    def test_deep_terms_are_worked_out_where_their_parts_are_many(self):
        free = Free(climbing(40), 0)
        m = free.lift(climbing(40), [])
        self.assertEqual(m.images(), [free.row(name)[0] for name in free.algebra.members()])
        with self.assertRaises(NotKin):
            free.lift(climbing(48), [])

    def test_few_parts_where_an_operation_of_two_comes_first(self):
        # Two equal members c14 have the value c15 in the base and c0 in the target, and "next" leads to them with few
        # parts, "both" with very many.
        names = [f"c{number}" for number in range(16)]
        nexts = [("next", 1, names[1:] + names[-1:])]
        free = Free(climbing(16, nexts), 0)
        self.lifts(free, climbing(16, nexts), [])
        values = [climbing(16).value("both", row) for row in tuples(names, 2)]
        values[14 * 16 + 14] = "c0"
        self.unlike(free, made_algebra(names, [("both", 2, values), *nexts, ("start", 0, ["c0"])]), [])

    def test_shallow_terms_of_many_parts_and_deeper_ones_of_few(self):
        # w11 is reached by 11 signs "both", with very many parts, or by 25 signs "next". That "end" of it is unlike
        # in the target must be told of the deeper term.
        wide = [f"w{number}" for number in range(12)]
        slow = [f"s{number}" for number in range(24)]
        names = [*wide, *slow, "goal", "sink"]
        pairs = {(name, name): above for name, above in zip(wide, wide[1:])}
        nexts = dict(zip(["w0", *slow], [*slow, "w11"]))

        def made(end):
            return made_algebra(names, [
                ("both", 2, [pairs.get(row, "sink") for row in itertools.product(names, repeat=2)]),
                ("next", 1, [nexts.get(name, "sink") for name in names]),
                ("end", 1, [end if name == "w11" else "sink" for name in names]),
                ("start", 0, ["w0"]),
            ])

        free = Free(made("sink"), 0)
        terms = {free.row(name)[0]: free.term(name) for name in free.algebra.members()}
        self.assertEqual((depth_of(terms["w11"]), many_parts(terms["w11"])), (12, 4095))
        told = self.unlike(free, made("goal"), [])
        self.assertIn("goal", [value_of(made("goal"), term, {}) for term in told])
        self.lifts(free, made("sink"), [])

    def test_no_more_than_2000_parts_where_there_is_a_deeper_term(self):
        # The least term for a member n followed by a number has so many parts, but for "n2000", which a chain of 15
        # signs "next" reaches, too. "end" of it makes 2001 parts, where the chain makes 17.
        halves = {
            3: (1, 1), 6: (2, 3), 7: (3, 3), 14: (6, 7), 15: (7, 7), 30: (14, 15), 31: (15, 15), 61: (30, 30), 62: (30, 31),
            124: (61, 62), 125: (62, 62), 249: (124, 124), 250: (124, 125), 499: (249, 249), 500: (249, 250),
            999: (499, 499), 1000: (499, 500), 2000: (999, 1000),
        }
        sums = {(f"n{one}", f"n{two}"): f"n{whole}" for whole, (one, two) in halves.items()}
        slow = [f"s{number}" for number in range(14)]
        nexts = dict(zip(["n1", *slow], [*slow, "n2000"]))
        names = ["n1", "n2", *sums.values(), *slow, "goal", "sink"]

        def made(end):
            return made_algebra(names, [
                ("both", 2, [sums.get(row, "sink") for row in itertools.product(names, repeat=2)]),
                ("next", 1, [nexts.get(name, "sink") for name in names]),
                ("up", 1, ["n2" if name == "n1" else "sink" for name in names]),
                ("end", 1, [end if name == "n2000" else "sink" for name in names]),
                ("start", 0, ["n1"]),
            ])

        free = Free(made("sink"), 0)
        parts = {free.row(name)[0]: many_parts(free.term(name)) for name in free.algebra.members()}
        self.assertEqual((parts["n2000"], parts["n999"]), (2000, 999))
        self.unlike(free, made("goal"), [])


if __name__ == "__main__":
    unittest.main()
