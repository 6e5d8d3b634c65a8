"""Parts of an algebra (points 8 and 9)."""

import copy
import itertools
import unittest

from equalkin.algebras import Algebra, ChainAlgebra, PickAlgebra, SetAlgebra, TurnAlgebra, made_algebra
from equalkin.errors import NoMembers, NotClosed, TooMany, UnknownMember
from equalkin.maps import product
from equalkin.parts import all_parts, closed, generators, part, term_to
from equalkin.terms import check_term, depth, term_value, unknowns
from tests.samples import data_of, scattered, some_algebras, tuples

TURN = TurnAlgebra(6)
ALGEBRAS = some_algebras()


def sublists(names):
    return [list(row) for count in range(len(names) + 1) for row in itertools.combinations(names, count)]


def first_way_out(algebra, names):
    """Return the first operation and its first arguments in names whose value is not in names, and None."""
    for sign, arity in algebra.signature:
        for row in tuples(names, arity):
            if algebra.value(sign, row) not in names:
                return sign, row
    return None


def parts_of(algebra):
    return [names for names in sublists(algebra.members()) if first_way_out(algebra, names) is None]


def least_depths(algebra, members):
    """Return the least depth of a term over the members for each member that has one."""
    depths = {name: 0 for name in members}
    for level in itertools.count(1):
        names = list(depths)
        values = {
            algebra.value(sign, row) for sign, arity in algebra.signature for row in tuples(names, arity)
        }
        if values <= set(depths):
            return depths
        for value in values - set(depths):
            depths[value] = level


def many_parts(term, known):
    """Return the number of a term's parts; known keeps those of terms that stand in it more than once."""
    if isinstance(term, str):
        return 1
    if id(term) not in known:
        known[id(term)] = 1 + sum(many_parts(inner, known) for inner in term[1:])
    return known[id(term)]


class Failing(unittest.TestCase):
    def raises(self, error, told, call, *given):
        with self.assertRaises(error) as caught:
            call(*given)
        self.assertIs(type(caught.exception), error)
        for name, value in told.items():
            self.assertEqual(getattr(caught.exception, name), value)


class Closed(Failing):
    def test_told_examples(self):
        self.assertEqual(closed(TURN, ["2"]), ["0", "2", "4"])
        self.assertEqual(closed(TURN, ["4", "3"]), ["0", "1", "2", "3", "4", "5"])
        self.assertEqual(closed(ChainAlgebra(5), ["3", "1"]), ["1", "3"])
        self.assertEqual(closed(SetAlgebra(2), ["01"]), ["00", "01", "10", "11"])

    def test_no_members(self):
        self.assertEqual(closed(TURN, []), ["0"])
        self.assertEqual(closed(SetAlgebra(2), ()), ["00", "11"])
        self.assertEqual(closed(PickAlgebra(3), []), [])
        self.assertEqual(closed(made_algebra(["a", "b"], []), []), [])
        up = Algebra(["a", "b", "c"], [("go", 1, ["b", "c", "c"]), ("start", 0, ["b"])])
        self.assertEqual(closed(up, []), ["b", "c"])

    def test_all_members(self):
        for algebra in ALGEBRAS:
            self.assertEqual(closed(algebra, algebra.members()), algebra.members())

    def test_twice_and_in_any_order(self):
        self.assertEqual(closed(PickAlgebra(5), ["3", "1", "3", "0", "1"]), ["0", "1", "3"])
        self.assertEqual(closed(TURN, ["4", "4", "2"]), ["0", "2", "4"])
        self.assertEqual(closed(made_algebra(["c", "a", "b"], []), ("a", "b", "c", "a")), ["c", "a", "b"])

    def test_is_the_least_part(self):
        for algebra in ALGEBRAS:
            parts = parts_of(algebra)
            for names in sublists(algebra.members()):
                around = [row for row in parts if set(names) <= set(row)]
                self.assertEqual(closed(algebra, names[::-1]), min(around, key=len))

    def test_of_a_large_algebra(self):
        large = product(product(TurnAlgebra(4), TurnAlgebra(4)), TurnAlgebra(4))
        self.assertEqual(len(closed(large, ["0/0/1", "0/1/0", "1/0/0"])), 64)
        self.assertEqual(closed(large, ["0/0/2", "0/2/0"]), ["0/0/0", "0/0/2", "0/2/0", "0/2/2"])

    def test_unknown_member(self):
        self.raises(UnknownMember, {"name": "6"}, closed, TURN, ["1", "6", "7"])
        self.raises(UnknownMember, {"name": "x"}, closed, TURN, ("x", "1"))

    def test_of_the_callers(self):
        told = closed(TURN, ["1"])
        told.clear()
        self.assertEqual(len(closed(TURN, ["1"])), 6)
        whole = closed(TURN, TURN.members())
        whole.append("7")
        self.assertEqual(len(TURN), 6)

    def test_changes_nothing(self):
        given, before = ["4", "2", "4"], data_of(TURN)
        closed(TURN, given)
        self.assertEqual(given, ["4", "2", "4"])
        self.assertEqual(data_of(TURN), before)


class Part(Failing):
    def test_told_example(self):
        self.assertEqual(part(TURN, ["4", "0", "2"]), made_algebra(["0", "2", "4"], [
            ("add", 2, ["0", "2", "4", "2", "4", "0", "4", "0", "2"]), ("back", 1, ["0", "4", "2"]), ("zero", 0, ["0"]),
        ]))

    def test_all_and_one(self):
        for algebra in ALGEBRAS:
            self.assertEqual(part(algebra, algebra.members()[::-1]), algebra)
        self.assertEqual(part(TURN, ["0"]), TurnAlgebra(1))
        self.assertEqual(part(ChainAlgebra(3), ["1", "1"]).members(), ["1"])

    def test_is_an_algebra_like_others(self):
        made = part(part(TURN, ("0", "2", "4", "2")), ["0"])
        self.assertIsInstance(made, Algebra)
        self.assertEqual(made, TurnAlgebra(1))
        self.assertEqual(made.signature, TURN.signature)

    def test_each_set_of_members(self):
        for algebra in ALGEBRAS:
            for names in sublists(algebra.members())[1:]:
                fault = first_way_out(algebra, names)
                given = names[::-1] + names[:1]
                if fault is not None:
                    self.raises(NotClosed, {"sign": fault[0], "arguments": fault[1]}, part, algebra, given)
                    continue
                made = part(algebra, given)
                self.assertEqual(made.members(), names)
                self.assertEqual(made.signature, algebra.signature)
                for sign, arity in algebra.signature:
                    for row in tuples(names, arity):
                        self.assertEqual(made.value(sign, row), algebra.value(sign, row))

    def test_unknown_member_ahead_of_all(self):
        self.raises(UnknownMember, {"name": "9"}, part, TURN, ["1", "9", "8"])
        self.raises(UnknownMember, {"name": ""}, part, TURN, [""])

    def test_no_members(self):
        self.raises(NoMembers, {}, part, TURN, [])
        self.raises(NoMembers, {}, part, PickAlgebra(2), ())
        self.raises(NoMembers, {}, part, made_algebra(["a"], []), [])

    def test_not_closed_tells_the_first(self):
        self.raises(NotClosed, {"sign": "add", "arguments": ("1", "1")}, part, TURN, ["0", "1"])
        self.raises(NotClosed, {"sign": "add", "arguments": ("0", "0")}, part, made_algebra(
            ["0", "1"], [("add", 2, ["1", "1", "1", "1"]), ("zero", 0, ["1"])]), ["0"])
        ends = Algebra(["a", "b"], [("end", 0, ["b"]), ("other", 1, ["b", "a"])])
        self.raises(NotClosed, {"sign": "end", "arguments": ()}, part, ends, ["a"])
        self.raises(NotClosed, {"sign": "other", "arguments": ("b",)}, part, ends, ["b"])
        # The algebra's order decides, not the one in which the members are told.
        self.raises(NotClosed, {"sign": "add", "arguments": ("1", "2")}, part, TURN, ["2", "4", "1", "0"])

    def test_changes_nothing(self):
        given, before = ["4", "0", "2"], data_of(TURN)
        made = part(TURN, given)
        given.append("1")
        made.members().append("1")
        self.assertEqual(made.members(), ["0", "2", "4"])
        self.assertEqual(data_of(TURN), before)


class TermTo(Failing):
    def test_told_examples(self):
        self.assertEqual(term_to(TURN, ["3"], "3"), "x0")
        self.assertEqual(term_to(TURN, ["1", "2"], "0"), ("zero",))
        self.assertEqual(term_to(TURN, ["1"], "2"), ("add", "x0", "x0"))
        self.assertIsNone(term_to(TURN, ["2", "4"], "1"))

    def test_equal_entries(self):
        term = term_to(TURN, ["5", "5", "1"], "0")
        self.assertEqual(depth(term), 1)
        self.assertIn(term_to(TURN, ("5", "5"), "5"), ("x0", "x1"))
        self.assertEqual(term_to(PickAlgebra(3), ["2", "2", "0"], "0"), "x2")

    def test_no_members_at_all(self):
        self.assertEqual(term_to(TURN, [], "0"), ("zero",))
        self.assertIsNone(term_to(TURN, [], "1"))
        self.assertIsNone(term_to(PickAlgebra(2), [], "1"))
        self.assertIsNone(term_to(made_algebra(["a"], []), [], "a"))
        self.assertEqual(term_to(SetAlgebra(1), (), "1"), ("all",))

    def test_values_and_least_depths(self):
        for algebra in ALGEBRAS:
            names = algebra.members()
            for members in ([], names[:1], names[-1:], names[-1:] + names[:1], names[1:2] * 2, names):
                depths = least_depths(algebra, members)
                for goal in names:
                    term = term_to(algebra, members, goal)
                    if goal not in depths:
                        self.assertIsNone(term)
                        continue
                    values = {f"x{number}": name for number, name in enumerate(members)}
                    check_term(algebra, term)
                    self.assertEqual(term_value(algebra, term, values), goal)
                    self.assertEqual(depth(term), depths[goal])

    def test_many_entries(self):
        names = [str(number) for number in range(60)]
        algebra = made_algebra(names, [("next", 1, names[1:] + names[:1])])
        self.assertEqual(term_to(algebra, names, "59"), "x59")
        self.assertEqual(unknowns(term_to(algebra, names[:50], "51")), ["x49"])

    def test_unknown_members_ahead_of_the_goal(self):
        self.raises(UnknownMember, {"name": "7"}, term_to, TURN, ["1", "7", "8"], "9")
        self.raises(UnknownMember, {"name": "9"}, term_to, TURN, ["1"], "9")
        self.raises(UnknownMember, {"name": "9"}, term_to, TURN, [], "9")

    def test_few_parts_where_an_operation_of_two_comes_first(self):
        names = [str(number) for number in range(16)]
        up = names[1:] + names[-1:]
        twice = [up[one] if one == two else names[0] for one in range(16) for two in range(16)]
        algebra = made_algebra(names, [("both", 2, twice), ("next", 1, up)])
        term = term_to(algebra, ["0"], "15")
        self.assertEqual(depth(term), 15)
        self.assertLessEqual(many_parts(term, {}), 2000)

    def test_few_parts_where_the_inner_term_may_be_deeper(self):
        # The goal stands 14 deep in any case, so its other argument need not be the full term of depth 11.
        wide = [f"w{number}" for number in range(12)]
        slow = [f"s{number}" for number in range(12)]
        late = [f"l{number}" for number in range(13)]
        names = ["goal", "sink", *wide, *slow, *late]
        unary = {name: "sink" for name in names}
        unary.update(zip(slow, slow[1:] + wide[-1:]))
        unary.update(zip(late, late[1:]))
        pairs = {(name, name): above for name, above in zip(wide, wide[1:])}
        pairs[wide[-1], late[-1]] = "goal"
        algebra = made_algebra(names, [
            ("f", 2, [pairs.get(row, "sink") for row in itertools.product(names, repeat=2)]),
            ("g", 1, [unary[name] for name in names]),
        ])
        members = ["w0", "s0", "l0"]
        self.assertEqual(depth(term_to(algebra, members, "w11")), 11)
        term = term_to(algebra, members, "goal")
        self.assertEqual(depth(term), 13)
        self.assertLessEqual(many_parts(term, {}), 2000)
        self.assertEqual(term_value(algebra, term, {"x0": "w0", "x1": "s0", "x2": "l0"}), "goal")

    def test_more_parts_where_there_is_no_other_way(self):
        names = [str(number) for number in range(40)]
        twice = [names[min(one + 1, 39)] if one == two else names[0] for one in range(40) for two in range(40)]
        term = term_to(made_algebra(names, [("both", 2, twice)]), ["0"], "39")
        self.assertEqual(many_parts(term, {}), 2 ** 40 - 1)

    def test_changes_nothing(self):
        given, before = ["1", "3"], data_of(TURN)
        term_to(TURN, given, "5")
        self.assertEqual(given, ["1", "3"])
        self.assertEqual(data_of(TURN), before)


class AllParts(Failing):
    def test_told_examples(self):
        self.assertEqual(all_parts(TURN), [["0"], ["0", "3"], ["0", "2", "4"], ["0", "1", "2", "3", "4", "5"]])
        self.assertEqual(all_parts(PickAlgebra(3)), [
            ["0"], ["1"], ["2"], ["0", "1"], ["0", "2"], ["1", "2"], ["0", "1", "2"],
        ])
        self.assertEqual(all_parts(SetAlgebra(1)), [["0", "1"]])
        self.assertEqual(all_parts(TurnAlgebra(1)), [["0"]])

    def test_the_order_is_that_of_places(self):
        self.assertEqual(all_parts(made_algebra(["b", "c", "a"], [])), [
            ["b"], ["c"], ["a"], ["b", "c"], ["b", "a"], ["c", "a"], ["b", "c", "a"],
        ])

    def test_all_algebras(self):
        for algebra in ALGEBRAS:
            self.assertEqual(all_parts(algebra), [names for names in parts_of(algebra) if names])

    def test_too_many(self):
        for count in (9, 10, 60):
            self.raises(TooMany, {}, all_parts, made_algebra([str(k) for k in range(count)], []))
        self.raises(TooMany, {}, all_parts, scattered(1, 9, (("f", 2), ("c", 0))))
        self.assertEqual(len(all_parts(made_algebra([str(k) for k in range(8)], []))), 255)

    def test_of_the_callers(self):
        told = all_parts(TURN)
        told[0].append("1")
        told[-1].clear()
        told.pop()
        self.assertEqual(all_parts(TURN)[-1], TURN.members())
        self.assertEqual(all_parts(TURN)[0], ["0"])


class Generators(Failing):
    def test_told_examples(self):
        self.assertEqual(generators(TURN), ["1"])
        self.assertEqual(generators(ChainAlgebra(3)), ["0", "1", "2"])
        self.assertEqual(generators(product(TurnAlgebra(2), TurnAlgebra(2))), ["0/1", "1/0"])
        self.assertEqual(generators(SetAlgebra(2)), ["01"])

    def test_where_no_member_is_needed(self):
        self.assertEqual(generators(SetAlgebra(1)), [])
        self.assertEqual(generators(TurnAlgebra(1)), [])
        self.assertEqual(generators(Algebra(["a", "b"], [("c", 0, ["b"]), ("g", 1, ["a", "a"])])), [])
        self.assertEqual(generators(PickAlgebra(1)), ["0"])

    def test_the_first_one_of_the_shortest(self):
        for algebra in ALGEBRAS:
            names = algebra.members()
            parts = parts_of(algebra)
            whole = [
                row for row in sublists(names)
                if all(set(one) == set(names) for one in parts if set(row) <= set(one))
            ]
            self.assertEqual(generators(algebra), whole[0])

    def test_too_many(self):
        for count in (9, 64):
            self.raises(TooMany, {}, generators, made_algebra([str(k) for k in range(count)], []))
        names = [str(k) for k in range(8)]
        self.assertEqual(generators(made_algebra(names, [])), names)
        ring = made_algebra(names + ["8"], [("zero", 0, ["0"]), ("next", 1, names[1:] + ["8", "0"])])
        self.raises(TooMany, {}, generators, ring)

    def test_of_the_callers(self):
        told = generators(TURN)
        told.append("5")
        self.assertEqual(generators(TURN), ["1"])
        given = copy.deepcopy(data_of(TURN))
        generators(TURN)
        self.assertEqual(data_of(TURN), given)


if __name__ == "__main__":
    unittest.main()
