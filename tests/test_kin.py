"""Kin: whether an algebra obeys all equations of another one, and papers for it (points 18 and 19)."""

import itertools
import unittest

from equalkin.algebras import ChainAlgebra, PickAlgebra, SetAlgebra, TurnAlgebra, made_algebra
from equalkin.errors import MixedSigns, NoMembers, TooMany
from equalkin.free import Free
from equalkin.judging import judge_kin
from equalkin.kin import kin, kin_paper, same_equations
from equalkin.maps import product
from equalkin.parts import all_parts, generators, part
from equalkin.quotients import all_linkings, quotient
from equalkin.terms import check_term, unknowns
from tests.samples import (
    SIGNATURES, Failing, data_of, depth_of, many_parts, scattered, some_algebras, tuples, value_of,
)
from tests.test_equations import first_failing, some_terms
from tests.test_free import turning

SIX, TWO, THREE = TurnAlgebra(6), TurnAlgebra(2), TurnAlgebra(3)


class Papers(Failing):
    def is_kin(self, first, second):
        """See that the paper proves that the second algebra is kin to the first one, from the document alone."""
        paper = kin_paper(first, second)
        self.assertIs(type(paper), tuple)
        self.assertEqual((len(paper), paper[0]), (2, "kin"))
        table = paper[1]
        self.assertIs(type(table), tuple)
        for entry in table:
            self.assertEqual((type(entry), len(entry), type(entry[0])), (tuple, 2, tuple))
        member_of = dict(table)
        self.assertEqual(len(member_of), len(table))
        widths = {len(row) for row in member_of}
        self.assertEqual(len(widths), 1)
        width = widths.pop()
        self.assertLessEqual(width, len(first) ** len(generators(second)))
        for name in itertools.chain.from_iterable(member_of):
            self.assertIn(name, first)
        self.assertEqual(set(member_of.values()), set(second.members()))
        for sign, arity in first.signature:
            for rows in tuples(list(member_of), arity):
                row = tuple(first.value(sign, [given[place] for given in rows]) for place in range(width))
                self.assertEqual(member_of[row], second.value(sign, [member_of[given] for given in rows]))
        self.assertIs(kin(first, second), True)
        self.assertIsNone(judge_kin(first, second, paper))

    def is_parted(self, first, second):
        paper = kin_paper(first, second)
        self.assertIs(type(paper), tuple)
        self.assertEqual((len(paper), paper[0]), (4, "parted"))
        _, left, right, values = paper
        self.assertIs(type(values), tuple)
        for entry in values:
            self.assertEqual((type(entry), len(entry)), (tuple, 2))
            self.assertIn(entry[1], second)
        member_of = dict(values)
        self.assertEqual(len(member_of), len(values))
        for term in (left, right):
            check_term(first, term)
            self.assertLessEqual(set(unknowns(term)), set(member_of))
            self.assertLessEqual(many_parts(term), 2000)
            self.assertLessEqual(depth_of(term), 40)
        self.assertIsNone(first_failing(first, left, right))
        self.assertNotEqual(value_of(second, left, member_of), value_of(second, right, member_of))
        self.assertIs(kin(first, second), False)
        self.assertIsNone(judge_kin(first, second, paper))


class Kin(Papers):
    def test_told_examples(self):
        self.is_kin(SIX, THREE)
        self.is_kin(SIX, product(TWO, TWO))
        self.is_kin(TWO, TurnAlgebra(1))
        self.is_kin(ChainAlgebra(2), ChainAlgebra(3))
        self.is_kin(SetAlgebra(1), SetAlgebra(2))
        self.is_kin(PickAlgebra(2), PickAlgebra(3))
        self.is_parted(THREE, SIX)
        self.is_parted(TWO, THREE)
        self.is_parted(TurnAlgebra(1), TWO)
        self.is_parted(product(TWO, TWO), TurnAlgebra(4))

    def test_to_itself_and_to_one_member(self):
        for algebra in some_algebras():
            try:
                Free(algebra, len(generators(algebra)))
            except (NoMembers, TooMany):
                continue
            self.is_kin(algebra, algebra)
            point = quotient(algebra, [algebra.members()])
            self.is_kin(algebra, point)
            self.assertEqual(same_equations(algebra, point), len(algebra) == 1)

    def test_parts_quotients_products_and_free_algebras(self):
        many = 0
        for algebra in some_algebras():
            if len(algebra) > 4:
                continue
            others = [part(algebra, names) for names in all_parts(algebra)]
            others += [quotient(algebra, blocks) for blocks in all_linkings(algebra)]
            if len(algebra) < 3:
                others.append(product(algebra, algebra))
            for count in (1, 2):
                try:
                    others.append(Free(algebra, count).algebra)
                except TooMany:
                    continue
            for other in others:
                try:
                    kin(algebra, other)
                except TooMany:
                    continue
                self.is_kin(algebra, other)
                many += 1
        self.assertGreater(many, 200)

    def test_drawn_algebras_against_a_walk_over_equations(self):
        seen = {True: 0, False: 0}
        for signature in SIGNATURES[:5]:
            for one, two in itertools.product(range(5), repeat=2):
                first, second = scattered(one, 2, signature), scattered(two + 20, 2 + two % 2, signature)
                try:
                    told = kin(first, second)
                except TooMany:
                    continue
                seen[told] += 1
                if told:
                    self.is_kin(first, second)
                else:
                    self.is_parted(first, second)
                terms = some_terms(first, ["x", "y"])
                parting = any(
                    first_failing(first, left, right) is None and first_failing(second, left, right) is not None
                    for left, right in list(itertools.combinations(terms, 2))[::7])
                self.assertFalse(told and parting)
        self.assertGreater(min(seen.values()), 5)

    def test_an_algebra_that_no_member_needs_to_generate(self):
        self.assertEqual(kin_paper(SIX, TurnAlgebra(1)), ("kin", ((("0",), "0"),)))
        first = made_algebra(["a", "b"], [("k", 0, ["a"]), ("g", 1, ["b", "a"])])
        second = made_algebra(["p", "q"], [("k", 0, ["q"]), ("g", 1, ["q", "p"])])
        self.is_kin(first, second)
        self.assertEqual(sorted(kin_paper(first, second)[1]), [(("a",), "q"), (("b",), "p")])
        third = made_algebra(["p", "q", "r"], [("k", 0, ["p"]), ("g", 1, ["q", "r", "p"])])
        self.is_parted(first, third)
        self.assertEqual(kin_paper(first, third)[3], ())

    def test_no_operations(self):
        bare = [made_algebra([f"m{number}" for number in range(count)], []) for count in (1, 2, 3)]
        self.is_kin(bare[0], bare[0])
        self.is_kin(bare[1], bare[2])
        self.is_kin(bare[2], bare[0])
        self.is_parted(bare[0], bare[1])
        self.is_parted(bare[0], bare[2])

    def test_mixed_signs_ahead_of_all(self):
        nine = made_algebra([str(number) for number in range(9)], [])
        for call in (kin, kin_paper, same_equations):
            self.raises(MixedSigns, {}, call, TWO, ChainAlgebra(2))
            self.raises(MixedSigns, {}, call, TWO, nine)
            self.raises(MixedSigns, {}, call, nine, TWO)
            self.raises(MixedSigns, {}, call, made_algebra(["a"], [("f", 1, ["a"])]), made_algebra(
                ["a"], [("f", 2, ["a"])]))

    def test_too_many(self):
        for call in (kin, kin_paper, same_equations):
            # More than 8 members.
            self.raises(TooMany, {}, call, turning(3), turning(9))
            self.raises(TooMany, {}, call, THREE, product(THREE, THREE))
            # More than 3 generators.
            self.raises(TooMany, {}, call, PickAlgebra(2), PickAlgebra(4))
            self.raises(TooMany, {}, call, ChainAlgebra(2), ChainAlgebra(4))
            # More than 64 lists.
            self.raises(TooMany, {}, call, PickAlgebra(5), PickAlgebra(3))
            self.raises(TooMany, {}, call, turning(65), turning(2))
            # More than 48 rows.
            self.raises(TooMany, {}, call, turning(49), turning(2))
            self.raises(TooMany, {}, call, TurnAlgebra(4), product(TWO, product(TWO, TWO)))

    def test_not_too_many_at_the_limits(self):
        self.is_parted(turning(3), turning(8))
        self.is_kin(turning(8), turning(4))
        self.is_kin(TWO, product(TWO, product(TWO, TWO)))
        self.is_kin(PickAlgebra(4), PickAlgebra(3))
        self.is_kin(turning(48), turning(6))
        self.is_kin(turning(48, 16), turning(8))
        self.assertEqual(len(kin_paper(turning(48, 16), turning(8))[1]), 48)
        self.assertEqual(len(kin_paper(turning(48, 16), turning(8))[1][0][0]), 64)
        self.assertIs(kin(turning(48), turning(5)), False)
        self.is_kin(ChainAlgebra(4), ChainAlgebra(3))

    def test_deep_papers(self):
        # An equation of no more than 40 signs in one another tells 40 from 7.
        self.is_parted(turning(40), turning(7))
        self.is_parted(turning(39), turning(8))

    def test_of_the_callers(self):
        before = data_of(SIX), data_of(THREE)
        self.assertEqual(kin_paper(SIX, THREE), kin_paper(SIX, THREE))
        self.assertEqual((data_of(SIX), data_of(THREE)), before)


class SameEquations(Failing):
    def test_told_examples(self):
        self.assertIs(same_equations(SIX, SIX), True)
        self.assertIs(same_equations(ChainAlgebra(2), ChainAlgebra(3)), True)
        self.assertIs(same_equations(PickAlgebra(2), PickAlgebra(3)), True)
        self.assertIs(same_equations(SetAlgebra(1), SetAlgebra(2)), True)
        self.assertIs(same_equations(TWO, product(TWO, TWO)), True)
        self.assertIs(same_equations(SIX, product(THREE, TWO)), True)
        self.assertIs(same_equations(SIX, THREE), False)
        self.assertIs(same_equations(THREE, SIX), False)
        self.assertIs(same_equations(TWO, TurnAlgebra(1)), False)
        self.assertIs(same_equations(TWO, THREE), False)

    def test_drawn_algebras(self):
        seen = {True: 0, False: 0}
        for signature in SIGNATURES:
            for one, two in itertools.product(range(6), repeat=2):
                first, second = scattered(one, 2, signature), scattered(two, 2, signature)
                try:
                    told = same_equations(first, second)
                except TooMany:
                    continue
                seen[told] += 1
                self.assertIs(told, kin(first, second) and kin(second, first))
        self.assertGreater(min(seen.values()), 10)

    def test_too_many_on_either_side(self):
        self.raises(TooMany, {}, same_equations, turning(2), turning(9))
        self.raises(TooMany, {}, same_equations, turning(9), turning(2))
        self.raises(TooMany, {}, same_equations, TWO, product(TWO, product(TWO, product(TWO, TWO))))


if __name__ == "__main__":
    unittest.main()
