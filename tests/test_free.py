"""Free algebras (point 16)."""

import itertools
import unittest

from equalkin.algebras import Algebra, ChainAlgebra, PickAlgebra, SetAlgebra, TurnAlgebra, made_algebra
from equalkin.errors import BadTerm, NoMembers, NoValue, TooMany, UnknownMember
from equalkin.free import Free
from equalkin.maps import product
from equalkin.parts import part
from equalkin.quotients import quotient
from equalkin.terms import check_term, unknowns
from tests.samples import (
    Failing, data_of, depth_of, depths_of_rows, many_parts, projections, scattered, some_algebras, tuples, value_of,
)

TWO = TurnAlgebra(2)


def turning(count, more=0):
    """Return an algebra of so many members in a ring, and more that stay where they are, and one operation."""
    names = [str(number) for number in range(count + more)]
    return made_algebra(names, [("g", 1, names[1:count] + names[:1] + names[count:])])


def climbing(count, more=()):
    """Return an algebra in which one operation of two arguments leads two equal members to the next one."""
    names = [f"c{number}" for number in range(count)]
    values = [names[min(one + 1, count - 1)] if one == two else names[0] for one in range(count) for two in range(count)]
    return made_algebra(names, [("both", 2, values), *more, ("start", 0, ["c0"])])


def free_ones():
    """Return tuples (algebra, count) that have a free algebra."""
    found = []
    for algebra in some_algebras() + [scattered(seed, 2, (("f", 2),)) for seed in range(3, 9)]:
        for count in range(4):
            try:
                Free(algebra, count)
            except (NoMembers, TooMany):
                continue
            found.append((algebra, count))
    return found


FREE_ONES = free_ones()


class Members(Failing):
    def test_told_examples(self):
        free = Free(TWO, 2)
        self.assertEqual(free.unknowns(), ["t0", "t1"])
        self.assertEqual(free.row("t0"), ["0", "0", "1", "1"])
        self.assertEqual(free.row("t1"), ["0", "1", "0", "1"])
        self.assertEqual(sorted(free.algebra.members()), ["t0", "t1", "t2", "t3"])
        self.assertEqual(sorted(free.row(name) for name in free.algebra.members()), [
            ["0", "0", "0", "0"], ["0", "0", "1", "1"], ["0", "1", "0", "1"], ["0", "1", "1", "0"],
        ])
        self.assertEqual(len(Free(SetAlgebra(1), 2).algebra), 16)
        self.assertEqual(len(Free(ChainAlgebra(2), 3).algebra), 18)
        self.assertEqual(len(Free(TurnAlgebra(6), 1).algebra), 6)
        self.assertEqual(len(Free(PickAlgebra(3), 3).algebra), 3)

    def test_attributes(self):
        free = Free(TWO, 2)
        self.assertEqual(free.base, TWO)
        self.assertEqual(free.count, 2)
        self.assertIsInstance(free.algebra, Algebra)
        self.assertEqual(free.algebra.signature, TWO.signature)

    def test_no_unknowns(self):
        free = Free(TurnAlgebra(5), 0)
        self.assertEqual((free.unknowns(), free.count, free.algebra.members()), ([], 0, ["t0"]))
        self.assertEqual((free.row("t0"), free.term("t0"), free.member(("zero",))), (["0"], ("zero",), "t0"))
        up = Algebra(["a", "b", "c"], [("go", 1, ["b", "c", "a"]), ("start", 0, ["b"])])
        free = Free(up, 0)
        self.assertEqual(free.algebra.members(), ["t0", "t1", "t2"])
        self.assertEqual(sorted(free.row(name) for name in free.algebra.members()), [["a"], ["b"], ["c"]])
        self.assertEqual(free.row(free.member(("go", ("start",)))), ["c"])

    def test_no_members(self):
        for algebra in (PickAlgebra(3), ChainAlgebra(1), made_algebra(["a"], []), turning(60)):
            self.raises(NoMembers, {}, Free, algebra, 0)
        self.assertEqual(Free(made_algebra(["a", "b"], []), 1).algebra.members(), ["t0"])

    def test_one_member_alone(self):
        for count in range(4):
            free = Free(TurnAlgebra(1), count)
            self.assertEqual(free.unknowns(), ["t0"] * count)
            self.assertEqual(free.algebra.members(), ["t0"])
            self.assertEqual(free.row("t0"), ["0"])
            self.assertEqual(free.member(("add", "x0", "x0")) if count else free.member(("zero",)), "t0")
        self.assertEqual(Free(made_algebra(["a"], []), 3).term("t0"), "x0")

    def test_rows_and_names_and_values_of_all(self):
        seen = {count: 0 for count in range(4)}
        for algebra, count in FREE_ONES:
            seen[count] += 1
            free = Free(algebra, count)
            rows, width = projections(algebra, count)
            names = free.algebra.members()
            self.assertEqual(names, [f"t{number}" for number in range(len(names))])
            self.assertEqual((free.base, free.count, free.algebra.signature), (algebra, count, algebra.signature))
            row_of = {name: tuple(free.row(name)) for name in names}
            self.assertEqual(len(set(row_of.values())), len(names))
            self.assertEqual(set(row_of.values()), set(depths_of_rows(algebra, rows, width)))
            self.assertEqual([row_of[name] for name in free.unknowns()], rows)
            # The unknowns come first, each row once.
            self.assertEqual(list(dict.fromkeys(free.unknowns())), names[:len(set(rows))])
            for sign, arity in algebra.signature:
                for given in tuples(names, arity):
                    self.assertEqual(row_of[free.algebra.value(sign, given)], tuple(
                        algebra.value(sign, [row_of[name][place] for name in given]) for place in range(width)))
        self.assertGreater(min(seen.values()), 9)

    def test_terms_of_all(self):
        for algebra, count in FREE_ONES:
            free = Free(algebra, count)
            rows, width = projections(algebra, count)
            depths = depths_of_rows(algebra, rows, width)
            columns = {f"x{number}": row for number, row in enumerate(rows)}
            for name in free.algebra.members():
                term = free.term(name)
                check_term(algebra, term)
                self.assertLessEqual(set(unknowns(term)), set(columns))
                self.assertEqual(depth_of(term), depths[tuple(free.row(name))])
                self.assertEqual(free.member(term), name)
                self.assertEqual(free.row(name), [
                    value_of(algebra, term, {unknown: row[place] for unknown, row in columns.items()})
                    for place in range(width)
                ])

    def test_members_of_terms(self):
        free = Free(TurnAlgebra(3), 2)
        self.assertEqual(free.member("x1"), "t1")
        self.assertEqual(free.member(("add", "x0", ("add", "x0", "x0"))), free.member(("zero",)))
        self.assertEqual(free.member(("back", ("back", "x1"))), "t1")
        self.assertEqual(free.row(free.member(("add", "x0", "x1"))), ["0", "1", "2", "1", "2", "0", "2", "0", "1"])

    def test_few_parts(self):
        # A term of which the parts are twice as many with each sign is as deep as one of few parts.
        names = [f"c{number}" for number in range(40)]
        free = Free(climbing(40, [("next", 1, names[1:] + names[-1:])]), 0)
        self.assertEqual(sorted(depth_of(free.term(name)) for name in free.algebra.members()), list(range(1, 41)))
        for name in free.algebra.members():
            self.assertLessEqual(many_parts(free.term(name)), 40)

    def test_more_parts_where_there_is_no_other_way(self):
        free = Free(climbing(40), 0)
        self.assertEqual(sorted(many_parts(free.term(name)) for name in free.algebra.members()), [
            2 ** number - 1 for number in range(1, 41)])


class Errors(Failing):
    def test_unknown_member(self):
        free = Free(TWO, 2)
        for name in ("t4", "t00", "x0", "0", "", "t-1"):
            self.raises(UnknownMember, {"name": name}, free.row, name)
            self.raises(UnknownMember, {"name": name}, free.term, name)

    def test_bad_term_ahead_of_no_value(self):
        free = Free(TWO, 2)
        for thing in (
            ("add", "x0"), ("add", "x5", ["x0"]), (), [], None, 7, "", "X0", ("times", "x7", "x8"), ("zero", "x9"),
            ("add", "x9", ("back",)),
        ):
            self.raises(BadTerm, {}, free.member, thing)

    def test_no_value(self):
        free = Free(TWO, 3)
        for name in ("x3", "x01", "y", "x", "x00", "t0", "zero", "x10"):
            self.raises(NoValue, {"name": name}, free.member, name)
            self.raises(NoValue, {"name": name}, free.member, ("add", "x0", ("back", name)))
        self.raises(NoValue, {"name": "y"}, free.member, ("add", ("add", "x2", "y"), "x3"))
        self.raises(NoValue, {"name": "x3"}, free.member, ("add", "x3", ("add", "x0", "y")))
        self.raises(NoValue, {"name": "x0"}, Free(TWO, 0).member, ("add", ("zero",), "x0"))
        self.raises(NoValue, {"name": "x1"}, Free(TurnAlgebra(1), 1).member, "x1")

    def test_too_many_lists(self):
        for algebra, count in (
            (turning(65), 1), (turning(9), 2), (turning(5), 3), (TurnAlgebra(5), 3), (TurnAlgebra(6), 3), (turning(81), 2),
        ):
            self.raises(TooMany, {}, Free, algebra, count)
        self.raises(TooMany, {}, Free, product(TWO, product(TWO, product(TWO, TWO))), 2)
        self.raises(TooMany, {}, Free, made_algebra([str(number) for number in range(65)], []), 1)
        # 64 lists are not too many.
        bare = made_algebra([str(number) for number in range(64)], [])
        self.assertEqual(len(Free(bare, 1).row("t0")), 64)
        self.assertEqual(len(Free(turning(8), 2).algebra), 16)
        self.assertEqual(len(Free(TurnAlgebra(4), 1).algebra), 4)
        self.assertEqual(len(Free(PickAlgebra(4), 3).row("t2")), 64)
        self.assertEqual(len(Free(ChainAlgebra(4), 3).algebra), 18)

    def test_many_members_are_no_hindrance_without_unknowns(self):
        names = [str(number) for number in range(300)]
        many = made_algebra(names, [("k", 0, ["7"]), ("g", 1, names[:7] + ["9", "7", "8"] + names[10:])])
        self.assertEqual(len(Free(many, 0).algebra), 3)
        self.assertEqual(Free(many, 0).row("t0"), ["7"])

    def test_too_many_rows(self):
        self.assertEqual(len(Free(turning(48), 1).algebra), 48)
        self.assertEqual(len(Free(turning(48, 16), 1).algebra), 48)
        self.raises(TooMany, {}, Free, turning(49), 1)
        self.raises(TooMany, {}, Free, turning(64), 1)
        self.raises(TooMany, {}, Free, SetAlgebra(1), 3)
        self.raises(TooMany, {}, Free, TurnAlgebra(4), 3)
        self.raises(TooMany, {}, Free, product(TurnAlgebra(2), TurnAlgebra(4)), 3)
        names = [str(number) for number in range(60)]
        start = [("k", 0, ["0"]), ("g", 1, names[1:48] + names[:1] + names[48:])]
        self.assertEqual(len(Free(made_algebra(names, start), 0).algebra), 48)
        start = [("k", 0, ["0"]), ("g", 1, names[1:49] + names[:1] + names[49:])]
        self.raises(TooMany, {}, Free, made_algebra(names, start), 0)
        # Rows of two unknowns: each has 24 of them.
        seven = product(turning(3), turning(2))
        self.assertEqual(len(Free(seven, 2).algebra), 12)
        self.assertEqual(len(Free(part(product(turning(8), turning(3)), product(turning(8), turning(3)).members()), 1).algebra), 24)


class Behaviour(Failing):
    def test_of_the_callers(self):
        before = data_of(TWO)
        free = Free(TWO, 2)
        for told in (free.unknowns(), free.row("t0"), free.row("t2"), free.algebra.members()):
            told.reverse()
            told.pop()
        self.assertEqual(free.unknowns(), ["t0", "t1"])
        self.assertEqual(free.row("t0"), ["0", "0", "1", "1"])
        self.assertEqual(free.algebra.members(), ["t0", "t1", "t2", "t3"])
        self.assertEqual(data_of(TWO), before)

    def test_two_of_them_do_not_mix(self):
        first, second = Free(TWO, 1), Free(TurnAlgebra(3), 2)
        self.assertEqual((len(first.algebra), len(second.algebra)), (2, 9))
        self.assertEqual((first.count, second.count), (1, 2))

    def test_is_an_algebra_like_others(self):
        free = Free(TurnAlgebra(6), 1)
        again = Free(free.algebra, 1)
        self.assertEqual(len(again.algebra), 6)
        made = quotient(free.algebra, [[name for name in free.algebra.members() if free.row(name)[1] in "024"], [
            name for name in free.algebra.members() if free.row(name)[1] in "135"]])
        self.assertEqual(len(made), 2)
        self.assertEqual(len(product(free.algebra, TWO)), 12)
        for algebra in (product(TWO, TurnAlgebra(3)), made):
            self.assertEqual(len(Free(algebra, 1).algebra), len(algebra))


if __name__ == "__main__":
    unittest.main()
