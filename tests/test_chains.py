"""Chains of steps and their judge (point 13)."""

import copy
import itertools
import unittest

from equalkin.algebras import ChainAlgebra, PickAlgebra, SetAlgebra, TurnAlgebra, made_algebra
from equalkin.errors import UnknownMember
from equalkin.linkings import chain, judge_chain, linked
from equalkin.maps import product
from tests.samples import data_of, some_algebras, tuples

SIX = TurnAlgebra(6)
ALGEBRAS = some_algebras()


def ends(algebra, pairs, step):
    """Return the two ends of a step, looking at its form on the way."""
    assert type(step) is tuple
    number, turned, moves = step
    assert type(number) is int and type(turned) is bool and type(moves) is tuple
    one, two = pairs[number]
    for move in moves:
        assert type(move) is tuple
        sign, place, others = move
        assert type(place) is int and type(others) is tuple
        assert len(others) == dict(algebra.signature)[sign] - 1 and 0 <= place <= len(others)
        one = algebra.value(sign, others[:place] + (one,) + others[place:])
        two = algebra.value(sign, others[:place] + (two,) + others[place:])
    return (two, one) if turned else (one, two)


class Failing(unittest.TestCase):
    def raises(self, told, call, *given):
        with self.assertRaises(UnknownMember) as caught:
            call(*given)
        self.assertEqual(caught.exception.name, told)

    def walks(self, algebra, pairs, first, second):
        """See that chain tells a right list of steps, and return it."""
        steps = chain(algebra, pairs, first, second)
        self.assertIs(type(steps), list)
        reached = first
        for step in steps:
            start, end = ends(algebra, pairs, step)
            self.assertEqual(start, reached)
            reached = end
        self.assertEqual(reached, second)
        self.assertIsNone(judge_chain(algebra, pairs, first, second, steps))
        return steps


class Chain(Failing):
    def test_told_pair(self):
        bare = made_algebra(["a", "b", "c"], [])
        self.assertEqual(chain(bare, [("a", "b")], "a", "b"), [(0, False, ())])
        self.assertEqual(chain(bare, [("a", "b")], "b", "a"), [(0, True, ())])
        self.assertEqual(chain(bare, [("a", "b"), ("c", "b")], "a", "c"), [(0, False, ()), (1, True, ())])
        self.assertEqual(chain(bare, [("c", "c"), ("a", "b")], "a", "b"), [(1, False, ())])

    def test_equal_ends(self):
        self.assertEqual(chain(SIX, [("1", "3")], "4", "4"), [])
        self.assertEqual(chain(SIX, [], "4", "4"), [])
        self.assertEqual(chain(SIX, [("1", "1")], "1", "1"), [])

    def test_unlike_blocks(self):
        self.assertIsNone(chain(SIX, [("1", "3")], "0", "1"))
        self.assertIsNone(chain(SIX, [], "0", "1"))
        self.assertIsNone(chain(SIX, [("1", "1")], "0", "1"))
        self.assertIsNone(chain(PickAlgebra(3), [("0", "1")], "2", "1"))

    def test_steps_behind_several_moves(self):
        names = ["a0", "a1", "a2", "a3", "b0", "b1", "b2", "b3"]
        along = made_algebra(names, [("g", 1, names[1:4] + names[3:4] + names[5:8] + names[7:8])])
        move = ("g", 0, ())
        self.assertEqual(chain(along, [("a0", "b0")], "a3", "b3"), [(0, False, (move, move, move))])
        self.assertEqual(chain(along, [("a0", "b0")], "b2", "a2"), [(0, True, (move, move))])
        self.assertEqual(len(self.walks(SIX, [("0", "1")], "1", "4")), 3)

    def test_others_at_each_place(self):
        names = ["a", "b", "c", "low", "x", "y"]
        for place in (0, 1):
            values = {("a", "c"): "x", ("b", "c"): "y"} if place == 0 else {("c", "a"): "x", ("c", "b"): "y"}
            algebra = made_algebra(names, [("f", 2, [values.get(row, "low") for row in tuples(names, 2)])])
            self.assertIn((0, False, (("f", place, ("c",)),)), self.walks(algebra, [("a", "b")], "x", "y"))

    def test_all_algebras(self):
        for algebra in ALGEBRAS:
            names = algebra.members()
            every = list(itertools.product(names, repeat=2))
            for pairs in [[pair] for pair in every[::2]] + list(zip(every, every[4:]))[::3] + [[]]:
                blocks = linked(algebra, pairs)
                for first, second in every[::3]:
                    if any(first in block and second in block for block in blocks):
                        self.walks(algebra, pairs, first, second)
                    else:
                        self.assertIsNone(chain(algebra, pairs, first, second))

    def test_large_algebra(self):
        four = TurnAlgebra(4)
        large = product(product(four, four), four)
        pairs = [("0/0/0", "0/0/1"), ("0/1/0", "0/0/0"), ("3/3/3", "0/3/3")]
        self.walks(large, pairs, "0/0/0", "3/2/1")
        self.walks(large, pairs, "2/2/2", "1/3/0")

    def test_errors_in_order(self):
        for call in (chain, lambda *given: judge_chain(*given, [])):
            self.raises("7", call, SIX, [("1", "7"), ("8", "2")], "9", "10")
            self.raises("8", call, SIX, [("1", "2"), ("8", "7")], "9", "10")
            self.raises("9", call, SIX, [("1", "2")], "9", "10")
            self.raises("10", call, SIX, [("1", "2")], "1", "10")
            self.raises("9", call, SIX, [], "9", "9")
            # Also where the ends are in unlike blocks or one of them would do.
            self.raises("x", call, SIX, [], "0", "x")

    def test_of_the_callers(self):
        pairs, before = [("0", "2"), ("1", "3")], data_of(SIX)
        told = chain(SIX, pairs, "0", "4")
        told.clear()
        self.assertEqual(len(self.walks(SIX, pairs, "0", "4")), 2)
        self.assertEqual(pairs, [("0", "2"), ("1", "3")])
        self.assertEqual(data_of(SIX), before)

    def test_pairs_as_lists(self):
        self.assertEqual(chain(SIX, (["0", "2"],), "0", "4"), chain(SIX, [("0", "2")], "0", "4"))


class Judge(Failing):
    PAIRS = [("0", "2"), ("1", "3")]
    ADD = ("add", 0, ("2",))
    BACK = ("back", 0, ())

    def judged(self, number, steps, first="0", second="4"):
        self.assertEqual(judge_chain(SIX, self.PAIRS, first, second, steps), number)
        self.assertEqual(judge_chain(SIX, self.PAIRS, first, second, tuple(steps)), number)

    def test_right_ones(self):
        self.judged(None, [(0, False, ()), (0, False, (self.ADD,))])
        self.judged(None, [(0, False, ()), (0, False, (("add", 1, ("2",)),))])
        # BACK leads 0 and 2 to 0 and 4, and ADD these to 2 and 0.
        self.judged(None, [(0, False, (self.BACK,))])
        self.judged(None, [(0, True, (self.BACK, self.ADD)), (0, False, (self.ADD,))])

    def test_no_steps(self):
        self.judged(None, [], "3", "3")
        self.judged(0, [], "3", "4")
        self.assertEqual(judge_chain(SIX, [], "3", "4", []), 0)
        self.assertIsNone(judge_chain(SIX, [], "3", "3", ()))

    def test_round_and_back(self):
        self.judged(None, [(0, False, ()), (0, True, ())], "0", "0")
        self.judged(None, [(0, False, ()), (0, True, ()), (0, False, (self.BACK,))])
        self.judged(None, [(0, False, (("add", 0, ("3",)), ("add", 0, ("3",)))), (0, True, ())], "0", "0")

    def test_an_end_elsewhere(self):
        self.judged(1, [(0, False, ())])
        self.judged(2, [(0, False, ()), (0, True, ())])
        self.judged(1, [(0, False, ())], "0", "0")
        self.judged(3, [(0, False, ()), (0, False, (self.ADD,)), (0, True, (self.ADD,))])

    def test_a_beginning_elsewhere(self):
        self.judged(0, [(0, True, ())])
        self.judged(0, [(1, False, ())])
        self.judged(0, [(0, False, (self.ADD,)), (0, False, ())])
        self.judged(1, [(0, False, ()), (0, False, ())])
        self.judged(2, [(0, False, ()), (0, False, (self.ADD,)), (0, False, ()), 5])
        self.judged(0, [(0, False, ())], "2", "2")

    def at_each_place(self, thing):
        """See that a thing that is no step is found wherever it stands."""
        self.judged(0, [thing])
        self.judged(0, [thing], "0", "0")
        self.judged(1, [(0, False, ()), thing])
        self.judged(1, [(0, False, ()), thing, (0, False, (self.ADD,))])
        self.judged(2, [(0, False, ()), (0, False, (self.ADD,)), thing])

    def test_what_is_no_tuple_or_of_another_length(self):
        for thing in (
            None, 0, "", "abc", [], (), [0, False, ()], (0,), (0, False), (0, False, (), ()), {"0": 1}, True, ((0, False, ()),),
        ):
            self.at_each_place(thing)

    def test_numbers_that_there_are_not(self):
        for number in (2, 3, -1, -2, 100, None, "0", "", True, False, 0.0, (0,), [0], (), b"0"):
            self.at_each_place((number, False, ()))
        self.assertEqual(judge_chain(SIX, [], "0", "0", [(0, False, ())]), 0)

    def test_truths_that_are_none(self):
        for truth in (0, 1, None, "", "False", (), [], 0.0, 2):
            self.at_each_place((0, truth, ()))

    def test_moves_told_as_lists_and_other_things(self):
        for moves in (
            [], None, "", 0, False, {}, [self.ADD], (["add", 0, ("2",)],), (("add", 0, ["2"]),), (("add", 0, "2"),), ("add",),
            self.ADD, self.BACK, (self.ADD, None), (self.ADD, ()), ((),), (("add", 0),), (("add", 0, ("2",), ()),),
            (("add", 0, None),), (("back", 0, []),), (("back", 0, ""),), (("back", 0, None),), (None,), (0,),
        ):
            self.at_each_place((0, False, moves))

    def test_signs_that_there_are_not(self):
        for sign in ("times", "", "ADD", None, 0, ["add"], ("add",), {}, True, "low"):
            self.at_each_place((0, False, ((sign, 0, ("2",)),)))
            self.at_each_place((0, False, ((sign, 0, ()),)))

    def test_places_that_there_are_not(self):
        for place in (2, -1, -2, 3, None, "0", True, False, 0.0, (0,), [0]):
            self.at_each_place((0, False, (("add", place, ("2",)),)))
        for place in (1, -1, False):
            self.at_each_place((0, False, (("back", place, ()),)))
        # An operation of no arguments has no place.
        for place in (0, 1, -1):
            for others in ((), ("0",)):
                self.at_each_place((0, False, (("zero", place, others),)))

    def test_others_too_many_too_few_or_no_members(self):
        for others in ((), ("2", "2"), ("6",), ("",), (2,), (None,), (("2",),), (["2"],), ({},)):
            self.at_each_place((0, False, (("add", 0, others),)))
            self.at_each_place((0, False, (self.BACK, ("add", 1, others))))
        for others in (("2",), ("2", "2"), ("6",)):
            self.at_each_place((0, False, (("back", 0, others),)))

    def test_a_fault_behind_another(self):
        self.judged(0, [(1, False, ()), None])
        self.judged(0, [None, (1, False, ())])
        self.judged(1, [(0, False, ()), (1, False, ()), None])

    def test_what_chain_tells_with_parts_exchanged(self):
        for algebra in (SIX, ChainAlgebra(4), SetAlgebra(2), ALGEBRAS[12], ALGEBRAS[40]):
            names = algebra.members()
            pairs = [(names[0], names[-1]), (names[1 % len(names)], names[0])]
            for first, second in itertools.product(names, repeat=2):
                steps = chain(algebra, pairs, first, second)
                if steps:
                    self.exchanged(algebra, pairs, first, second, steps)

    def exchanged(self, algebra, pairs, first, second, steps):
        for number, step in enumerate(steps):
            for other in (
                (step[0], not step[1], step[2]), (1 - step[0], *step[1:]), (*step[:2], step[2][1:]), (*step[:2], step[2][:-1]),
                (*step[:2], step[2] + step[2]), (*step[:2], step[2][::-1]),
            ):
                self.judged_rightly(algebra, pairs, first, second, [*steps[:number], other, *steps[number + 1:]])
            self.judged_rightly(algebra, pairs, first, second, steps[:number] + steps[number + 1:])
            self.judged_rightly(algebra, pairs, first, second, steps[:number] + steps[number:number + 1] + steps[number:])
        self.judged_rightly(algebra, pairs, first, second, steps[::-1])
        self.judged_rightly(algebra, pairs, second, first, steps)
        self.judged_rightly(algebra, pairs, second, first, [(one, not turned, moves) for one, turned, moves in steps[::-1]])

    def judged_rightly(self, algebra, pairs, first, second, steps):
        reached, told = first, None
        for number, step in enumerate(steps):
            start, end = ends(algebra, pairs, step)
            if start != reached:
                told = number
                break
            reached = end
        if told is None and reached != second:
            told = len(steps)
        self.assertEqual(judge_chain(algebra, pairs, first, second, steps), told)

    def test_changes_nothing(self):
        steps = [(0, False, ()), (0, False, (self.ADD,)), [0, False, []]]
        pairs = [["0", "2"], ("1", "3")]
        before = copy.deepcopy((steps, pairs)), data_of(SIX)
        self.assertEqual(judge_chain(SIX, pairs, "0", "4", steps), 2)
        self.assertEqual(((steps, pairs), data_of(SIX)), before)


if __name__ == "__main__":
    unittest.main()
