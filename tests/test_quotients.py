"""All linkings, met, joined, quotients, kernels and hearts (point 14)."""

import itertools
import unittest

from equalkin.algebras import Algebra, ChainAlgebra, PickAlgebra, SetAlgebra, TurnAlgebra, made_algebra
from equalkin.errors import BadBlocks, NotLinked, TooMany, UnknownMember
from equalkin.linkings import check_linking
from equalkin.maps import Map, all_maps, product
from equalkin.quotients import all_linkings, heart, joined, kernel, met, quotient, to_quotient
from tests.samples import Failing, data_of, scattered, some_algebras, tuples
from tests.test_linkings import blockings, first_fault

SIX = TurnAlgebra(6)
ODD, THREE = [["0", "2", "4"], ["1", "3", "5"]], [["0", "3"], ["1", "4"], ["2", "5"]]
ALGEBRAS = [algebra for algebra in some_algebras() if len(algebra) < 6]
BELL = {1: 1, 2: 2, 3: 5, 4: 15, 5: 52}


def one_form_of(names, blocks):
    inner = [[name for name in names if name in block] for block in blocks]
    return sorted(inner, key=lambda block: names.index(block[0]))


def first_places(names, blocks):
    """Return, member by member, the place of the first member of its block."""
    firsts = {name: min(names.index(other) for other in block) for block in blocks for name in block}
    return [firsts[name] for name in names]


def linkings_of(algebra):
    names = algebra.members()
    ways = [one_form_of(names, blocks) for blocks in blockings(names) if first_fault(algebra, blocks) is None]
    return sorted(ways, key=lambda blocks: (-len(blocks), first_places(names, blocks)))


def within(inner, outer):
    return all(any(set(block) <= set(wide) for wide in outer) for block in inner)


class AllLinkings(Failing):
    def test_told_order(self):
        self.assertEqual(all_linkings(made_algebra(["b", "c", "a"], [])), [
            [["b"], ["c"], ["a"]], [["b", "c"], ["a"]], [["b", "a"], ["c"]], [["b"], ["c", "a"]], [["b", "c", "a"]],
        ])
        self.assertEqual(all_linkings(TurnAlgebra(4)), [
            [["0"], ["1"], ["2"], ["3"]], [["0", "2"], ["1", "3"]], [["0", "1", "2", "3"]],
        ])
        self.assertEqual(all_linkings(ChainAlgebra(3)), [
            [["0"], ["1"], ["2"]], [["0", "1"], ["2"]], [["0"], ["1", "2"]], [["0", "1", "2"]],
        ])
        self.assertEqual(all_linkings(TurnAlgebra(1)), [[["0"]]])

    def test_no_operations(self):
        for count, many in BELL.items():
            bare = made_algebra([f"m{number}" for number in range(count)], [])
            found = all_linkings(bare)
            self.assertEqual(len(found), many)
            self.assertEqual(found, linkings_of(bare))

    def test_all_algebras(self):
        for algebra in ALGEBRAS:
            found = all_linkings(algebra)
            self.assertEqual(found, linkings_of(algebra))
            for blocks in found:
                self.assertIsNone(check_linking(algebra, blocks))

    def test_too_many(self):
        self.raises(TooMany, {}, all_linkings, SIX)
        self.raises(TooMany, {}, all_linkings, product(TurnAlgebra(2), TurnAlgebra(3)))
        self.raises(TooMany, {}, all_linkings, made_algebra([str(number) for number in range(60)], []))
        self.assertEqual(len(all_linkings(PickAlgebra(5))), 52)
        self.assertEqual(len(all_linkings(TurnAlgebra(5))), 2)

    def test_of_the_callers(self):
        algebra = TurnAlgebra(4)
        before = data_of(algebra)
        told = all_linkings(algebra)
        told[1][0].clear()
        told[0].clear()
        told.pop()
        self.assertEqual(all_linkings(algebra)[1], [["0", "2"], ["1", "3"]])
        self.assertEqual(len(all_linkings(algebra)), 3)
        self.assertEqual(data_of(algebra), before)


class MetAndJoined(Failing):
    def test_told_examples(self):
        alone = [[name] for name in SIX.members()]
        self.assertEqual(met(SIX, ODD, THREE), alone)
        self.assertEqual(joined(SIX, ODD, THREE), [SIX.members()])
        self.assertEqual(met(SIX, ODD, [SIX.members()]), ODD)
        self.assertEqual(joined(SIX, alone, THREE), THREE)

    def test_blocks_in_any_order_and_as_tuples(self):
        for first in ([["5", "1", "3"], ["4", "2", "0"]], (("4", "0", "2"), ["3", "5", "1"])):
            self.assertEqual(met(SIX, first, first), ODD)
            self.assertEqual(joined(SIX, first, first), ODD)
            self.assertEqual(met(SIX, ([*reversed(SIX.members())],), first), ODD)
            self.assertEqual(joined(SIX, first, [[name] for name in reversed(SIX.members())]), ODD)

    def test_joined_by_several_steps(self):
        bare = made_algebra(["a", "b", "c", "d", "e"], [])
        first, second = [["a", "b"], ["c", "d"], ["e"]], [["b", "c"], ["d"], ["a"], ["e"]]
        self.assertEqual(joined(bare, first, second), [["a", "b", "c", "d"], ["e"]])
        self.assertEqual(met(bare, first, second), [["a"], ["b"], ["c"], ["d"], ["e"]])

    def test_walk_over_all_linkings(self):
        for algebra in ALGEBRAS:
            every = linkings_of(algebra)
            for first, second in itertools.product(every[::2] + every[-1:], every[1::3] + every[:1]):
                below = [blocks for blocks in every if within(blocks, first) and within(blocks, second)]
                above = [blocks for blocks in every if within(first, blocks) and within(second, blocks)]
                self.assertEqual(
                    met(algebra, first[::-1], second),
                    next(blocks for blocks in below if all(within(other, blocks) for other in below)))
                self.assertEqual(
                    joined(algebra, first, [block[::-1] for block in second]),
                    next(blocks for blocks in above if all(within(blocks, other) for other in above)))

    def test_errors_of_the_first_ahead_of_those_of_the_second(self):
        unknown, bad, unlinked = [["0", "9"]], [["0"]], [["0", "1"], ["2", "3"], ["4", "5"]]
        for call in (met, joined):
            for blocks, error, seen in (
                (unknown, UnknownMember, {"name": "9"}), (bad, BadBlocks, {}), (unlinked, NotLinked, {}),
            ):
                for other in (ODD, [["0", "8"]], [[]], [["0", "1", "2"], ["3", "4", "5"]]):
                    self.raises(error, seen, call, SIX, blocks, other)
                self.raises(error, seen, call, SIX, ODD, blocks)
            fault = first_fault(SIX, unlinked)
            told = dict(zip(("sign", "arguments", "place", "other"), fault))
            self.raises(NotLinked, told, call, SIX, unlinked, unknown)
            self.raises(NotLinked, told, call, SIX, ODD, unlinked)

    def test_large_algebra(self):
        four = TurnAlgebra(4)
        large = product(product(four, four), four)
        names = large.members()
        by_first = [[name for name in names if name[0] == digit] for digit in "3201"]
        by_last = [[name for name in names if name[-1] == digit] for digit in "0132"]
        self.assertEqual(met(large, by_first, by_last), [
            [name for name in names if name[0] == first and name[-1] == last] for first in "0123" for last in "0123"])
        self.assertEqual(joined(large, by_first, by_last), [names])

    def test_changes_nothing(self):
        first, second, before = [["5", "1", "3"], ["4", "0", "2"]], [["1", "4"], ["3", "0"], ["5", "2"]], data_of(SIX)
        for call in (met, joined):
            told = call(SIX, first, second)
            told[0].append("x")
            told.clear()
            self.assertNotEqual(call(SIX, first, second), [])
        self.assertEqual(first, [["5", "1", "3"], ["4", "0", "2"]])
        self.assertEqual(second, [["1", "4"], ["3", "0"], ["5", "2"]])
        self.assertEqual(data_of(SIX), before)


class Quotient(Failing):
    def test_told_examples(self):
        self.assertEqual(quotient(SIX, ODD), TurnAlgebra(2))
        self.assertEqual(quotient(SIX, THREE), TurnAlgebra(3))
        self.assertEqual(quotient(SIX, [[name] for name in SIX.members()]), SIX)
        self.assertEqual(quotient(SIX, [SIX.members()]), TurnAlgebra(1))
        self.assertEqual(to_quotient(SIX, THREE).images(), ["0", "1", "2", "0", "1", "2"])

    def test_names_and_order_go_by_the_algebra(self):
        bare = made_algebra(["d", "b", "a", "c"], [("g", 1, ["c", "a", "b", "d"]), ("k", 0, ["c"])])
        made = quotient(bare, (["c", "d"], ("a", "b")))
        self.assertEqual(made, made_algebra(["d", "b"], [("g", 1, ["d", "b"]), ("k", 0, ["d"])]))
        self.assertIsInstance(made, Algebra)
        self.assertEqual(to_quotient(bare, (["c", "d"], ("a", "b"))).images(), ["d", "b", "b", "d"])

    def test_all_linkings_of_all_algebras(self):
        for algebra in ALGEBRAS:
            names = algebra.members()
            for blocks in linkings_of(algebra):
                given = [block[::-1] for block in blocks[::-1]]
                first_of = {name: block[0] for block in blocks for name in block}
                made = quotient(algebra, given)
                self.assertEqual(made.members(), [block[0] for block in blocks])
                self.assertEqual(made.signature, algebra.signature)
                for sign, arity in algebra.signature:
                    for row in tuples(made.members(), arity):
                        self.assertEqual(made.value(sign, row), first_of[algebra.value(sign, row)])
                m = to_quotient(algebra, given)
                self.assertIsInstance(m, Map)
                self.assertEqual((m.source, m.target), (algebra, made))
                self.assertEqual(m.images(), [first_of[name] for name in names])
                self.assertEqual(kernel(m), blocks)

    def test_of_products_and_of_quotients(self):
        large = product(TurnAlgebra(4), product(TurnAlgebra(2), TurnAlgebra(4)))
        names = large.members()
        made = quotient(large, [[name for name in names if name[0] == digit] for digit in "1302"])
        self.assertEqual(made.members(), ["0/0/0", "1/0/0", "2/0/0", "3/0/0"])
        self.assertEqual(made.value("add", ["3/0/0", "2/0/0"]), "1/0/0")
        again = quotient(made, [["0/0/0", "2/0/0"], ["3/0/0", "1/0/0"]])
        self.assertEqual(again.members(), ["0/0/0", "1/0/0"])
        self.assertEqual(again.value("zero", []), "0/0/0")
        m = to_quotient(large, [[name for name in names if name[-1] == digit] for digit in "0123"])
        self.assertEqual((m.source, m.target.members()), (large, ["0/0/0", "0/0/1", "0/0/2", "0/0/3"]))
        self.assertEqual(m("3/1/2"), "0/0/2")

    def test_errors(self):
        for call in (quotient, to_quotient):
            self.raises(UnknownMember, {"name": "7"}, call, SIX, [["0"], ["7", "8"], []])
            for blocks in ([], [["0"]], [[], *ODD], [*ODD, ["0"]], [["0", "2", "4", "4"], ["1", "3", "5"]]):
                self.raises(BadBlocks, {}, call, SIX, blocks)
            bad = [["0", "4"], ["2"], ["5", "1", "3"]]
            told = dict(zip(("sign", "arguments", "place", "other"), first_fault(SIX, bad)))
            self.raises(NotLinked, told, call, SIX, bad)

    def test_changes_nothing(self):
        blocks, before = [["5", "2"], ["3", "0"], ["4", "1"]], data_of(SIX)
        made, m = quotient(SIX, blocks), to_quotient(SIX, blocks)
        made.members().clear()
        m.images().clear()
        self.assertEqual(blocks, [["5", "2"], ["3", "0"], ["4", "1"]])
        blocks[0].clear()
        self.assertEqual((made.members(), m.images()), (["0", "1", "2"], ["0", "1", "2", "0", "1", "2"]))
        self.assertEqual(data_of(SIX), before)


class Kernel(Failing):
    def test_one_to_each(self):
        self.assertEqual(kernel(Map.same(SIX)), [[name] for name in SIX.members()])
        self.assertEqual(kernel(Map(TurnAlgebra(3), TurnAlgebra(3), ["0", "2", "1"])), [["0"], ["1"], ["2"]])
        self.assertEqual(kernel(Map(TurnAlgebra(2), SIX, ["0", "3"])), [["0"], ["1"]])

    def test_to_one_member(self):
        self.assertEqual(kernel(Map(SIX, TurnAlgebra(1), ["0"] * 6)), [SIX.members()])
        self.assertEqual(kernel(Map(PickAlgebra(3), PickAlgebra(2), ["1"] * 3)), [["0", "1", "2"]])

    def test_others(self):
        self.assertEqual(kernel(Map(SIX, TurnAlgebra(3), ["0", "2", "1", "0", "2", "1"])), THREE)
        self.assertEqual(kernel(Map(ChainAlgebra(4), ChainAlgebra(2), ["0", "1", "1", "1"])), [["0"], ["1", "2", "3"]])
        bare = made_algebra(["d", "b", "a", "c"], [])
        self.assertEqual(kernel(Map(bare, bare, ["c", "d", "c", "d"])), [["d", "a"], ["b", "c"]])

    def test_all_maps(self):
        for first, second in itertools.product((0, 1, 2), repeat=2):
            for signature in ((("g", 1),), (("f", 2),), ()):
                source, target = scattered(first, 4, signature), scattered(second, 3, signature)
                for m in all_maps(source, target):
                    blocks = kernel(m)
                    self.assertIsNone(check_linking(source, blocks))
                    self.assertEqual(one_form_of(source.members(), blocks), blocks)
                    for one, two in itertools.product(source.members(), repeat=2):
                        together = any(one in block and two in block for block in blocks)
                        self.assertEqual(together, m(one) == m(two))

    def test_of_the_callers(self):
        m = to_quotient(SIX, ODD)
        told = kernel(m)
        told[0].clear()
        told.pop()
        self.assertEqual(kernel(m), ODD)


class Heart(Failing):
    def test_there_is_one(self):
        self.assertEqual(heart(TurnAlgebra(4)), [["0", "2"], ["1", "3"]])
        line = made_algebra(["a", "b", "c"], [("g", 1, ["b", "c", "c"])])
        self.assertEqual(heart(line), [["a"], ["b", "c"]])
        # Here others stand between the heart and the whole that are in no order.
        fork = made_algebra(["x", "y", "a", "b"], [("g", 1, ["a", "a", "b", "b"])])
        self.assertEqual([len(blocks) for blocks in all_linkings(fork)].count(3), 2)
        self.assertIsNone(heart(fork))

    def test_there_is_none(self):
        self.assertIsNone(heart(PickAlgebra(3)))
        self.assertIsNone(heart(ChainAlgebra(3)))
        self.assertIsNone(heart(made_algebra(["a", "b", "c"], [])))
        self.assertIsNone(heart(SetAlgebra(2)))

    def test_one_member(self):
        self.assertIsNone(heart(TurnAlgebra(1)))
        self.assertIsNone(heart(made_algebra(["a"], [])))

    def test_equality_and_the_whole_alone(self):
        for algebra in (TurnAlgebra(5), TurnAlgebra(3), ChainAlgebra(2), SetAlgebra(1), made_algebra(["a", "b"], [])):
            self.assertEqual(heart(algebra), [algebra.members()])

    def test_all_algebras(self):
        found = 0
        for algebra in ALGEBRAS + [scattered(seed, 5, (("g", 1), ("h", 1))) for seed in range(20)]:
            others = [blocks for blocks in linkings_of(algebra) if len(blocks) < len(algebra)]
            least = [blocks for blocks in others if all(within(blocks, other) for other in others)]
            self.assertEqual(heart(algebra), least[0] if least else None)
            found += bool(least) and len(others) > 1
        self.assertGreater(found, 3)

    def test_too_many(self):
        self.raises(TooMany, {}, heart, SIX)
        self.raises(TooMany, {}, heart, product(SetAlgebra(1), SetAlgebra(2)))

    def test_of_the_callers(self):
        told = heart(TurnAlgebra(4))
        told[0].clear()
        self.assertEqual(heart(TurnAlgebra(4)), [["0", "2"], ["1", "3"]])


if __name__ == "__main__":
    unittest.main()
