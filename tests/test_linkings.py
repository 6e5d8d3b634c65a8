"""Linkings: check_linking and linked (points 12 and 13)."""

import itertools
import unittest

from equalkin.algebras import Algebra, ChainAlgebra, PickAlgebra, SetAlgebra, TurnAlgebra, made_algebra
from equalkin.errors import BadBlocks, NotLinked, UnknownMember
from equalkin.linkings import check_linking, linked
from equalkin.maps import product
from tests.samples import data_of, some_algebras, tuples

SIX = TurnAlgebra(6)
ALGEBRAS = some_algebras()


def blockings(names):
    """Return all ways to part the names into blocks."""
    if not names:
        return [[]]
    found = []
    for rest in blockings(names[1:]):
        found.append([names[:1], *rest])
        for place, block in enumerate(rest):
            found.append([*rest[:place], names[:1] + block, *rest[place + 1:]])
    return found


def first_fault(algebra, blocks):
    """Return what NotLinked must tell of the blocks, and None."""
    block_of = {name: block for block in blocks for name in block}
    names = algebra.members()
    for sign, arity in algebra.signature:
        for row in tuples(names, arity):
            for place, name in enumerate(row):
                for other in names:
                    if other == name or other not in block_of[name]:
                        continue
                    changed = list(row)
                    changed[place] = other
                    if algebra.value(sign, changed) not in block_of[algebra.value(sign, row)]:
                        return sign, row, place, other
    return None


def least(algebra, pairs):
    """Return the blocks that all linkings which join the pairs have in common, in their one form."""
    names = algebra.members()
    around = [
        blocks for blocks in blockings(names)
        if all(any(one in block and two in block for block in blocks) for one, two in pairs)
        and first_fault(algebra, blocks) is None
    ]
    mates = {name: set(names) for name in names}
    for blocks in around:
        for block in blocks:
            for name in block:
                mates[name] &= set(block)
    found = [[name for name in names if name in mates[first]] for first in names]
    return [block for first, block in zip(names, found) if block[0] == first]


class Failing(unittest.TestCase):
    def raises(self, error, told, call, *given):
        with self.assertRaises(error) as caught:
            call(*given)
        self.assertIs(type(caught.exception), error)
        for name, value in told.items():
            self.assertEqual(getattr(caught.exception, name), value)

    def not_linked(self, algebra, blocks, sign, arguments, place, other):
        told = {"sign": sign, "arguments": arguments, "place": place, "other": other}
        self.raises(NotLinked, told, check_linking, algebra, blocks)


class Check(Failing):
    def test_linkings(self):
        for blocks in (
            [["0", "2", "4"], ["1", "3", "5"]], [["5", "2"], ["0", "3"], ["4", "1"]], [["0", "1", "2", "3", "4", "5"]],
            [["0"], ["1"], ["2"], ["3"], ["4"], ["5"]], (("3", "1", "5"), ["4", "0", "2"]),
        ):
            self.assertIsNone(check_linking(SIX, blocks))
        self.assertIsNone(check_linking(ChainAlgebra(4), [["2", "3"], ["0"], ["1"]]))
        self.assertIsNone(check_linking(TurnAlgebra(1), [["0"]]))

    def test_each_way_to_make_blocks(self):
        for algebra in ALGEBRAS:
            if len(algebra) > 4:
                continue
            for blocks in blockings(algebra.members()):
                for given in (blocks, [block[::-1] for block in blocks[::-1]]):
                    fault = first_fault(algebra, blocks)
                    if fault is None:
                        self.assertIsNone(check_linking(algebra, given))
                    else:
                        self.not_linked(algebra, given, *fault)

    def test_unknown_member(self):
        self.raises(UnknownMember, {"name": "6"}, check_linking, SIX, [["0", "1"], ["2", "6"], ["7"]])
        self.raises(UnknownMember, {"name": "7"}, check_linking, SIX, [["7"], ["6"]])

    def test_unknown_member_ahead_of_bad_blocks(self):
        self.raises(UnknownMember, {"name": "x"}, check_linking, SIX, [[], ["0"], ["x"]])
        self.raises(UnknownMember, {"name": "x"}, check_linking, SIX, [["0", "0"], ["x"]])
        self.raises(UnknownMember, {"name": "x"}, check_linking, SIX, [["0", "1", "2", "3", "4", "5"], [], ["x"]])

    def test_bad_blocks(self):
        two = TurnAlgebra(2)
        for blocks in (
            [], [[]], [["0"]], [["1"]], [["0", "1"], []], [[], ["0"], ["1"]], [["0"], ["1"], ["0"]], [["0", "0"], ["1"]],
            [["0", "1"], ["1"]], [["0", "1", "0"]], [["0", "0"]], [["0"], ["0"]], (), ((),),
        ):
            self.raises(BadBlocks, {}, check_linking, two, blocks)

    def test_bad_blocks_ahead_of_not_linked(self):
        # 0 and 1 in one block are no linking unless all are, but the blocks are bad already.
        self.raises(BadBlocks, {}, check_linking, SIX, [["0", "1"], ["2"], ["3"], ["4"], ["5"], []])
        self.raises(BadBlocks, {}, check_linking, SIX, [["0", "1"], ["2"], ["3"], ["4"]])

    def test_order_of_operations(self):
        names = ["a", "b", "c"]
        blocks = [["a", "b"], ["c"]]
        calm = ("g", 1, ["a", "a", "a"])
        bad = ("h", 1, ["a", "c", "a"])
        worse = ("f", 2, ["a", "a", "a", "a", "c", "a", "a", "a", "a"])
        self.not_linked(Algebra(names, [calm, bad, worse]), blocks, "h", ("a",), 0, "b")
        self.not_linked(Algebra(names, [worse, calm, bad]), blocks, "f", ("a", "b"), 0, "b")

    def test_order_of_tuples_and_places_and_others(self):
        names = ["a", "b", "c"]
        # The value of (a, a) alone differs, so both places show it: the first one is told.
        first = Algebra(names, [("f", 2, ["c", "a", "a", "a", "a", "a", "a", "a", "a"])])
        self.not_linked(first, [["b", "a"], ["c"]], "f", ("a", "a"), 0, "b")
        # The value goes by the second argument alone.
        second = Algebra(names, [("f", 2, ["a", "c", "a", "a", "c", "a", "a", "c", "a"])])
        self.not_linked(second, [["a", "b"], ["c"]], "f", ("a", "a"), 1, "b")
        third = made_algebra(["a", "b", "c", "d"], [("g", 1, ["a", "b", "c", "d"]), ("h", 1, ["a", "a", "d", "d"])])
        self.not_linked(third, [["c", "b", "a"], ["d"]], "h", ("a",), 0, "c")
        # The algebra's order of the others decides, not that of the block.
        last = made_algebra(["c", "b", "a", "d"], [("h", 1, ["c", "d", "d", "d"])])
        self.not_linked(last, [["a", "b", "c"], ["d"]], "h", ("c",), 0, "b")
        self.not_linked(ChainAlgebra(4), [["0", "3"], ["1"], ["2"]], "low", ("0", "1"), 0, "3")

    def test_arguments_are_a_tuple(self):
        with self.assertRaises(NotLinked) as caught:
            check_linking(ChainAlgebra(3), [["0", "2"], ["1"]])
        self.assertIs(type(caught.exception.arguments), tuple)
        self.assertEqual(caught.exception.arguments, ("0", "1"))
        self.assertEqual((caught.exception.place, caught.exception.other), (0, "2"))

    def test_large_algebra(self):
        four = TurnAlgebra(4)
        large = product(product(four, four), four)
        self.assertIsNone(check_linking(large, [large.members()]))
        ends = [[name for name in large.members() if name[0] == first] for first in "0123"]
        self.assertIsNone(check_linking(large, ends))

    def test_changes_nothing(self):
        blocks, before = [["5", "1", "3"], ["4", "0", "2"]], data_of(SIX)
        check_linking(SIX, blocks)
        self.assertEqual(blocks, [["5", "1", "3"], ["4", "0", "2"]])
        self.assertEqual(data_of(SIX), before)


class Linked(Failing):
    def test_told_examples(self):
        self.assertEqual(linked(SIX, [("1", "3")]), [["0", "2", "4"], ["1", "3", "5"]])
        self.assertEqual(linked(SIX, [("5", "2")]), [["0", "3"], ["1", "4"], ["2", "5"]])
        self.assertEqual(linked(SIX, [("1", "0")]), [["0", "1", "2", "3", "4", "5"]])
        self.assertEqual(linked(ChainAlgebra(5), [("3", "1")]), [["0"], ["1", "2", "3"], ["4"]])

    def test_no_pairs(self):
        self.assertEqual(linked(SIX, []), [["0"], ["1"], ["2"], ["3"], ["4"], ["5"]])
        self.assertEqual(linked(PickAlgebra(2), ()), [["0"], ["1"]])

    def test_a_member_with_itself(self):
        self.assertEqual(linked(SIX, [("2", "2")]), [["0"], ["1"], ["2"], ["3"], ["4"], ["5"]])
        self.assertEqual(linked(PickAlgebra(3), [("2", "2"), ("0", "2"), ("1", "1")]), [["0", "2"], ["1"]])

    def test_pairs_as_lists(self):
        self.assertEqual(linked(SIX, (["1", "3"],)), linked(SIX, [("1", "3")]))

    def test_one_form(self):
        bare = made_algebra(["d", "b", "a", "c"], [])
        self.assertEqual(linked(bare, [("c", "b")]), [["d"], ["b", "c"], ["a"]])
        self.assertEqual(linked(bare, [("a", "c"), ("d", "a")]), [["d", "a", "c"], ["b"]])

    def test_further_ones_fall_together(self):
        # A pair that is moved joins what one pair of the list, moved, does not.
        names = ["a", "b", "c", "d", "e", "f"]
        steps = made_algebra(names, [("g", 1, ["c", "d", "e", "f", "e", "f"])])
        self.assertEqual(linked(steps, [("a", "b")]), [["a", "b"], ["c", "d"], ["e", "f"]])
        self.assertEqual(linked(steps, [("b", "c"), ("a", "b")]), [["a", "b", "c", "d", "e", "f"]])
        self.assertEqual(linked(SetAlgebra(2), [("00", "01")]), [["00", "01"], ["10", "11"]])
        self.assertEqual(linked(SetAlgebra(2), [("00", "01"), ("11", "01")]), [["00", "01", "10", "11"]])

    def test_is_the_least_linking(self):
        for algebra in ALGEBRAS:
            names = algebra.members()
            if len(names) > 4:
                continue
            every = list(itertools.product(names, repeat=2))
            for pairs in [[pair] for pair in every] + list(zip(every, every[3:])):
                self.assertEqual(linked(algebra, pairs), least(algebra, pairs))

    def test_is_a_linking_that_has_the_pairs(self):
        for algebra in ALGEBRAS:
            names = algebra.members()
            for pairs in itertools.combinations(itertools.combinations(names, 2), 2):
                blocks = linked(algebra, pairs)
                check_linking(algebra, blocks)
                for one, two in pairs:
                    self.assertEqual([one in block for block in blocks], [two in block for block in blocks])

    def test_large_algebra(self):
        four = TurnAlgebra(4)
        large = product(product(four, four), four)
        self.assertEqual(linked(large, [("0/0/0", "1/0/0"), ("0/0/0", "0/1/0")]), [
            [name for name in large.members() if name[-1] == last] for last in "0123"
        ])

    def test_unknown_member_pair_by_pair(self):
        self.raises(UnknownMember, {"name": "7"}, linked, SIX, [("1", "7"), ("8", "2")])
        self.raises(UnknownMember, {"name": "8"}, linked, SIX, [("1", "2"), ("8", "7")])
        self.raises(UnknownMember, {"name": "6"}, linked, SIX, [("6", "6")])

    def test_of_the_callers(self):
        pairs, before = [("1", "3")], data_of(SIX)
        blocks = linked(SIX, pairs)
        blocks[0].clear()
        blocks.pop()
        self.assertEqual(linked(SIX, pairs), [["0", "2", "4"], ["1", "3", "5"]])
        self.assertEqual(pairs, [("1", "3")])
        self.assertEqual(data_of(SIX), before)


if __name__ == "__main__":
    unittest.main()
