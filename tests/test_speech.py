"""Operations that terms make, bars where none does, and algebras that speak for others (points 20 and 21)."""

import itertools
import unittest

from equalkin.algebras import Algebra, ChainAlgebra, PickAlgebra, SetAlgebra, TurnAlgebra, made_algebra
from equalkin.errors import BadCount, MixedMembers, TooMany, UnknownMember
from equalkin.free import Free
from equalkin.maps import product
from equalkin.speech import bar, judge_bar, made_by, speaks
from equalkin.terms import check_term, unknowns
from tests.samples import (
    Failing, data_of, depth_of, depths_of_rows, many_parts, projections, scattered, some_algebras, tuples, value_of,
)
from tests.test_free import climbing, turning

SIX, FIVE, TWO = TurnAlgebra(6), TurnAlgebra(5), TurnAlgebra(2)
SAMPLES = some_algebras() + [scattered(seed, 2, (("f", 2),)) for seed in range(3, 9)]


def some_values(algebra, arity, seed):
    """Return lists of values for so many arguments, thrown about and those of simple operations."""
    names, many = algebra.members(), len(algebra) ** arity
    found, state = [], seed
    for _ in range(3):
        values = []
        for _ in range(many):
            state = (state * 6364136223846793005 + 1442695040888963407) % 2 ** 64
            values.append(names[(state >> 33) % len(names)])
        found.append(values)
    return found + [[names[0]] * many, [names[-1]] * many] + [list(row) for row in projections(algebra, arity)[0]]


def asked_ones():
    """Return tuples (algebra, arity, values, least depths by rows) that made_by and bar can be asked for."""
    found = []
    for number, algebra in enumerate(SAMPLES):
        for arity in range(4):
            if len(algebra) ** arity > 64 or arity == 3 and len(algebra) > 2:
                continue
            rows, width = projections(algebra, arity)
            try:
                made_by(algebra, arity, algebra.members()[:1] * width)
            except TooMany:
                continue
            depths = depths_of_rows(algebra, rows, width)
            found += [(algebra, arity, values, depths) for values in some_values(algebra, arity, number)]
            found += [(algebra, arity, list(row), depths) for row in list(depths)[::5]]
    return found


ASKED = asked_ones()


def row_of(algebra, arity, term):
    lists = tuples(algebra.members(), arity)
    return [value_of(algebra, term, {f"x{place}": row[place] for place in range(arity)}) for row in lists]


def is_bar(algebra, arity, values, rows):
    """Tell whether rows are a bar, worked out without the functions of the program."""
    width = len(rows[0]) if rows else 1
    lists = tuples(algebra.members(), arity)
    goal = tuple(values[lists.index(tuple(row[place] for row in rows))] for place in range(width))
    return goal not in depths_of_rows(algebra, [tuple(row) for row in rows], width)


class MadeBy(Failing):
    def test_told_examples(self):
        self.assertEqual(made_by(SIX, 1, ["0", "2", "4", "0", "2", "4"]), ("add", "x0", "x0"))
        self.assertEqual(made_by(SIX, 1, ["0", "1", "2", "3", "4", "5"]), "x0")
        self.assertIn(made_by(SIX, 0, ["0"]), [("zero",)])
        self.assertIsNone(made_by(SIX, 1, ["1", "1", "1", "1", "1", "1"]))
        self.assertIsNone(made_by(SIX, 0, ["3"]))
        self.assertEqual(made_by(TWO, 2, ["0", "0", "1", "1"]), "x0")
        self.assertEqual(made_by(TWO, 2, ["0", "1", "0", "1"]), "x1")
        self.assertIsNone(made_by(TWO, 2, ["0", "0", "0", "1"]))
        self.assertEqual(made_by(SetAlgebra(1), 2, ["0", "0", "0", "1"]), ("and", "x0", "x1"))
        self.assertEqual(depth_of(made_by(TWO, 3, ["0", "1", "1", "0", "1", "0", "0", "1"])), 2)
        self.assertEqual(made_by(PickAlgebra(4), 3, [row[2] for row in tuples("0123", 3)]), "x2")

    def test_no_term_at_all(self):
        self.assertIsNone(made_by(PickAlgebra(3), 0, ["1"]))
        self.assertIsNone(made_by(made_algebra(["a"], []), 0, ["a"]))
        self.assertEqual(made_by(made_algebra(["a"], []), 1, ["a"]), "x0")

    def test_values_and_least_depths(self):
        seen = {(arity, made): 0 for arity in range(4) for made in (True, False)}
        for algebra, arity, values, depths in ASKED:
            for given in (values, tuple(values)):
                term = made_by(algebra, arity, given)
                self.assertEqual(term is not None, tuple(values) in depths)
            seen[arity, term is not None] += 1
            if term is not None:
                check_term(algebra, term)
                self.assertLessEqual(set(unknowns(term)), {f"x{place}" for place in range(arity)})
                self.assertEqual(row_of(algebra, arity, term), values)
                self.assertEqual(depth_of(term), depths[tuple(values)])
                self.assertLessEqual(many_parts(term), 2000)
        self.assertGreater(min(seen.values()), 4)

    def test_few_parts(self):
        names = [f"c{number}" for number in range(40)]
        quick = climbing(40, [("next", 1, names[1:] + names[-1:])])
        self.assertEqual(depth_of(made_by(quick, 0, ["c39"])), 40)
        self.assertLessEqual(many_parts(made_by(quick, 0, ["c39"])), 2000)

    def test_errors_in_order(self):
        for call in (made_by, bar, lambda *given: judge_bar(*given, [])):
            for arity in (4, 5, -1, 100):
                self.raises(BadCount, {}, call, SIX, arity, ["9"])
                self.raises(BadCount, {}, call, TurnAlgebra(1), arity, ["0"])
            for arity, many in ((0, 0), (0, 2), (1, 1), (1, 5), (1, 7), (2, 6), (2, 35), (2, 37), (3, 64), (3, 36)):
                self.raises(BadCount, {}, call, SIX, arity, ["9"] * many)
            self.raises(UnknownMember, {"name": "6"}, call, SIX, 1, ["0", "1", "6", "7", "8", "9"])
            self.raises(UnknownMember, {"name": ""}, call, PickAlgebra(3), 0, [""])
            # Ahead of TooMany.
            self.raises(BadCount, {}, call, SIX, 3, ["0"] * 215)
            self.raises(UnknownMember, {"name": "x0"}, call, SIX, 3, ["0"] * 215 + ["x0"])

    def test_too_many(self):
        for call in (made_by, bar):
            self.raises(TooMany, {}, call, SIX, 3, ["0"] * 216)
            self.raises(TooMany, {}, call, TurnAlgebra(4), 3, ["0"] * 64)
            self.raises(TooMany, {}, call, SetAlgebra(1), 3, ["0"] * 8)
            self.raises(TooMany, {}, call, turning(49), 1, ["0"] * 49)
            self.raises(TooMany, {}, call, turning(9), 2, ["0"] * 81)
            # Also for what an unknown makes.
            self.raises(TooMany, {}, call, turning(65), 1, turning(65).members())
        self.assertEqual(made_by(turning(48, 16), 1, turning(48, 16).members()), "x0")
        self.assertEqual(depth_of(made_by(turning(48), 1, ["47"] + turning(47).members())), 47)
        self.assertIsNone(made_by(turning(48), 1, ["0"] * 48))

    def test_what_is_handed_in_stays(self):
        values, before = ["0", "2", "4", "0", "2", "4"], data_of(SIX)
        made_by(SIX, 1, values)
        bar(SIX, 1, values)
        self.assertEqual(values, ["0", "2", "4", "0", "2", "4"])
        self.assertEqual(data_of(SIX), before)


class Bar(Failing):
    def test_told_examples(self):
        self.assertIsNone(bar(SIX, 1, ["0", "2", "4", "0", "2", "4"]))
        self.assertTrue(is_bar(SIX, 1, ["1"] * 6, bar(SIX, 1, ["1"] * 6)))
        self.assertEqual(bar(SIX, 0, ["3"]), [])
        self.assertIsNone(bar(SIX, 0, ["0"]))
        self.assertEqual(bar(PickAlgebra(2), 0, ["1"]), [])

    def test_just_where_no_term_has_the_values(self):
        seen = {arity: 0 for arity in range(4)}
        for algebra, arity, values, _ in ASKED:
            rows = bar(algebra, arity, tuple(values))
            self.assertEqual(rows is None, made_by(algebra, arity, values) is not None)
            if rows is None:
                continue
            seen[arity] += 1
            self.assertIs(type(rows), list)
            self.assertEqual(len(rows), arity)
            for row in rows:
                self.assertIs(type(row), list)
                self.assertEqual(len(row), len(rows[0]))
                self.assertLessEqual(len(row), 70)
                self.assertLessEqual(set(row), set(algebra.members()))
            self.assertTrue(is_bar(algebra, arity, values, rows))
            self.assertIs(judge_bar(algebra, arity, values, rows), True)
        self.assertGreater(min(seen.values()), 4)

    def test_at_64_lists(self):
        algebra = turning(48, 16)
        rows = bar(algebra, 1, algebra.members()[::-1])
        self.assertLessEqual(len(rows[0]), 70)
        self.assertTrue(is_bar(algebra, 1, algebra.members()[::-1], rows))
        self.assertIs(judge_bar(algebra, 1, algebra.members()[::-1], rows), True)

    def test_of_the_callers(self):
        told = bar(SIX, 1, ["1"] * 6)
        told[0].clear()
        told.clear()
        self.assertTrue(is_bar(SIX, 1, ["1"] * 6, bar(SIX, 1, ["1"] * 6)))


class JudgeBar(Failing):
    BOTH = ["0", "0", "0", "1"]

    def judged(self, told, algebra, arity, values, rows):
        self.assertIs(judge_bar(algebra, arity, values, rows), told)
        self.assertIs(judge_bar(algebra, arity, tuple(values), [tuple(row) for row in rows]), told)
        self.assertIs(judge_bar(algebra, arity, values, tuple(rows)), told)
        self.assertEqual(is_bar(algebra, arity, values, rows), told)

    def test_right_and_wrong_ones(self):
        self.judged(True, TWO, 2, self.BOTH, [["0", "0", "1", "1"], ["0", "1", "0", "1"]])
        self.judged(True, TWO, 2, self.BOTH, [["1", "1", "0"], ["0", "1", "1"]])
        self.judged(False, TWO, 2, self.BOTH, [["1"], ["1"]])
        self.judged(False, TWO, 2, self.BOTH, [["1", "0"], ["1", "1"]])
        self.judged(False, TWO, 2, self.BOTH, [["0", "0"], ["0", "1"]])
        self.judged(False, SIX, 1, ["0", "2", "4", "0", "2", "4"], [SIX.members()])
        self.judged(True, SIX, 1, ["1"] * 6, [["0"]])
        self.judged(True, SIX, 1, ["0", "0", "0", "1", "0", "0"], [["3", "0", "2"]])
        self.judged(False, SIX, 1, ["0", "0", "0", "1", "0", "0"], [["0", "1"]])

    def test_rows_of_no_members(self):
        self.judged(False, TWO, 2, self.BOTH, [[], []])
        self.judged(False, SIX, 1, ["1"] * 6, [[]])

    def test_arity_0(self):
        self.judged(True, SIX, 0, ["3"], [])
        self.judged(False, SIX, 0, ["0"], [])
        self.judged(True, PickAlgebra(3), 0, ["0"], [])
        self.assertIs(judge_bar(SIX, 0, ["3"], [["3"]]), False)
        self.assertIs(judge_bar(SIX, 0, ["3"], [[]]), False)

    def test_faults_of_form(self):
        good = [["0", "0", "1", "1"], ["0", "1", "0", "1"]]
        for rows in (
            [], good[:1], [*good, good[0]], [*good, []], [good[0], good[1][:3]], [good[0][:3], good[1]], [good[0], []], [[], good[1]],
            [good[0], ["0", "1", "0", "2"]], [["0", "0", "1", ""], good[1]], [good[0], ["0", "1", "0", None]],
            [good[0], ["0", "1", "0", ["1"]]], [good[0], None], [good[0], 5], [good[0], "0101"], ["0011", "0101"], None, "", 5, {},
        ):
            self.assertIs(judge_bar(TWO, 2, self.BOTH, rows), False)
        # Also where the least part would be too large.
        self.assertIs(judge_bar(turning(60), 1, ["0"] * 60, [turning(60).members(), ["0"]]), False)
        self.assertIs(judge_bar(turning(60), 1, ["0"] * 60, [["0", "60"]]), False)
        self.assertIs(judge_bar(turning(60), 2, ["0"] * 3600, [["0", "1"], ["0"]]), False)

    def test_errors_ahead_of_the_form(self):
        for rows in (None, [], [["0"]], [["9"]]):
            self.raises(BadCount, {}, judge_bar, SIX, 4, [], rows)
            self.raises(BadCount, {}, judge_bar, SIX, 1, ["0"], rows)
            self.raises(UnknownMember, {"name": "6"}, judge_bar, SIX, 1, ["6"] * 6, rows)

    def test_too_many_rows_of_the_right_form(self):
        self.raises(TooMany, {}, judge_bar, turning(49), 1, ["0"] * 49, [["7"]])
        self.raises(TooMany, {}, judge_bar, turning(49), 1, turning(49).members(), [["7"]])
        self.judged(True, turning(48, 16), 1, ["50"] * 64, [["7"]])
        self.judged(False, turning(48, 16), 1, ["7"] * 64, [["7"]])
        three = [["1", "0", "0"], ["0", "1", "0"], ["0", "0", "1"]]
        self.raises(TooMany, {}, judge_bar, SIX, 3, ["0"] * 216, three)
        self.judged(False, SIX, 3, ["0"] * 216, [*three[:2], three[0]])

    def test_more_lists_than_a_free_algebra_may_have(self):
        # 216 lists of three members are no hindrance here.
        values = ["3"] * 216
        self.judged(True, SIX, 3, values, [["0", "2"], ["2", "4"], ["4", "0"]])
        self.judged(False, SIX, 3, values, [["0", "3"], ["3", "3"], ["2", "3"]])
        wide = [name for name in "012345" * 12][:70]
        self.judged(True, SIX, 1, ["1", "2", "3", "4", "5", "0"], [wide])
        self.judged(False, SIX, 1, ["0", "5", "4", "3", "2", "1"], [wide])

    def test_drawn_rows(self):
        seen = {True: 0, False: 0}
        for number, (algebra, arity, values, _) in enumerate(ASKED[::2]):
            names = algebra.members()
            for width in (1, 2, 3):
                rows = [[names[(number * (at + 2) + 3 * place) % len(names)] for at in range(width)] for place in range(arity)]
                try:
                    told = judge_bar(algebra, arity, values, rows)
                except TooMany:
                    continue
                self.assertIs(told, is_bar(algebra, arity, values, rows))
                seen[told] += 1
        self.assertGreater(min(seen.values()), 50)

    def test_what_is_handed_in_stays(self):
        rows, values, before = [["0", "1"], ["1", "1"]], list(self.BOTH), data_of(TWO)
        judge_bar(TWO, 2, values, rows)
        self.assertEqual((rows, values, data_of(TWO)), ([["0", "1"], ["1", "1"]], self.BOTH, before))


class Speaks(Failing):
    def test_told_examples(self):
        minus = Algebra(FIVE.members(), [
            ("less", 2, [str((one - two) % 5) for one in range(5) for two in range(5)]), ("nought", 0, ["0"]),
        ])
        terms = speaks(FIVE, minus)
        self.assertIs(type(terms), list)
        self.assertEqual(terms[1], ("zero",))
        self.assertEqual(row_of(FIVE, 2, terms[0]), [str((one - two) % 5) for one in range(5) for two in range(5)])
        self.assertEqual(depth_of(terms[0]), 2)
        back = speaks(minus, FIVE)
        self.assertEqual([depth_of(term) for term in back], [3, 2, 1])
        self.assertEqual(row_of(minus, 2, back[0]), [str((one + two) % 5) for one in range(5) for two in range(5)])
        self.assertIsNone(speaks(FIVE, ChainAlgebra(5)))
        self.assertEqual(speaks(ChainAlgebra(5), ChainAlgebra(5)), [("low", "x0", "x1"), ("high", "x0", "x1")])
        self.assertEqual(speaks(SIX, made_algebra(SIX.members(), [])), [])

    def test_itself(self):
        for algebra in SAMPLES:
            try:
                terms = speaks(algebra, algebra)
            except TooMany:
                continue
            self.assertEqual(len(terms), len(algebra.signature))
            for (sign, arity), term in zip(algebra.signature, terms):
                self.assertLessEqual(depth_of(term), 1)
                self.assertEqual(row_of(algebra, arity, term), [
                    algebra.value(sign, row) for row in tuples(algebra.members(), arity)])

    def test_mixed_members(self):
        for first, second in (
            (TWO, TurnAlgebra(3)), (TurnAlgebra(3), TWO), (TWO, made_algebra(["1", "0"], [])), (turning(70), TWO),
            (TWO, made_algebra(["0", "2"], [])), (TWO, product(TWO, TurnAlgebra(1))),
        ):
            self.raises(MixedMembers, {}, speaks, first, second)

    def test_other_signatures_with_equal_members(self):
        self.assertEqual(speaks(made_algebra(["0", "1"], [("k", 0, ["0"]), ("g", 1, ["1", "0"])]), made_algebra(
            ["0", "1"], [("top", 0, ["1"]), ("same", 1, ["0", "1"])])), [("g", ("k",)), "x0"])

    def test_none_and_too_many_operation_by_operation(self):
        nine = turning(9)
        names = nine.members()
        still, whole = ("still", 1, names), ("whole", 2, ["0"] * 81)
        other = ("other", 1, ["0"] * 9)
        self.assertIsNone(speaks(nine, made_algebra(names, [still, other, whole])))
        self.raises(TooMany, {}, speaks, nine, made_algebra(names, [still, whole, other]))
        self.raises(TooMany, {}, speaks, nine, made_algebra(names, [whole]))
        self.assertEqual(speaks(nine, made_algebra(names, [still])), ["x0"])

    def test_no_terms_without_unknowns(self):
        self.assertIsNone(speaks(PickAlgebra(2), TWO))
        self.assertIsNone(speaks(PickAlgebra(2), made_algebra(["0", "1"], [("k", 0, ["0"])])))

    def test_of_the_callers(self):
        before = data_of(FIVE)
        told = speaks(FIVE, FIVE)
        told.clear()
        self.assertEqual(len(speaks(FIVE, FIVE)), 3)
        self.assertEqual(data_of(FIVE), before)

    def test_free_algebras_speak(self):
        free = Free(TWO, 1).algebra
        self.assertEqual(speaks(free, free), [("add", "x0", "x1"), speaks(free, free)[1], ("zero",)])


if __name__ == "__main__":
    unittest.main()
