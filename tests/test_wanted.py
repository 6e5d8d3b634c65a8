"""Terms that are wanted for an operation with told equations (point 21)."""

import itertools
import unittest

from equalkin.algebras import ChainAlgebra, PickAlgebra, SetAlgebra, TurnAlgebra, made_algebra
from equalkin.errors import BadCount, BadTerm, TooMany
from equalkin.maps import product
from equalkin.speech import made_by, wanted
from equalkin.terms import check_term, unknowns
from tests.samples import (
    Failing, data_of, depth_of, depths_of_rows, many_parts, projections, some_algebras, tuples, value_of,
)
from tests.test_free import climbing, turning

SIX, TWO, SET = TurnAlgebra(6), TurnAlgebra(2), SetAlgebra(1)
TWICE = ("new", ("new", "x"))


def value_with(algebra, table, term, values):
    """Return the value of a term in which "new" has the values that table tells."""
    if isinstance(term, str):
        return values[term]
    given = tuple(value_with(algebra, table, inner, values) for inner in term[1:])
    return table[given] if term[0] == "new" else algebra.value(term[0], list(given))


def hold(algebra, table, equations):
    for left, right in equations:
        for row in itertools.product(algebra.members(), repeat=3):
            values = dict(zip("xyz", row))
            values.update({"x0": row[0], "x1": row[1], "x2": row[2]})
            if value_with(algebra, table, left, values) != value_with(algebra, table, right, values):
                return False
    return True


def least_depth(algebra, arity, equations):
    """Return the least depth of a term that meets the equations, and None if none does."""
    rows, width = projections(algebra, arity)
    lists = tuples(algebra.members(), arity)
    depths = depths_of_rows(algebra, rows, width)
    right = [depths[row] for row in depths if hold(algebra, dict(zip(lists, row)), equations)]
    return min(right, default=None)


class Wanted(Failing):
    def meets(self, algebra, arity, equations):
        """See that the right term, or None, is told, and return it."""
        term = wanted(algebra, arity, equations)
        least = least_depth(algebra, arity, equations)
        self.assertEqual(None if term is None else depth_of(term), least)
        if term is not None:
            check_term(algebra, term)
            self.assertLessEqual(set(unknowns(term)), {f"x{place}" for place in range(arity)})
            lists = tuples(algebra.members(), arity)
            table = {
                row: value_of(algebra, term, {f"x{place}": row[place] for place in range(arity)}) for row in lists
            }
            self.assertTrue(hold(algebra, table, equations))
        return term

    def test_told_examples(self):
        # What leads back, what is always 0, a middle one of three.
        self.assertEqual(self.meets(SIX, 1, [(("add", "x", ("new", "x")), ("zero",))]), ("back", "x0"))
        self.assertEqual(self.meets(SIX, 1, [(("new", "x"), ("new", "y"))]), ("zero",))
        three = ChainAlgebra(2)
        middle = [(("new", "x", "x", "y"), "x"), (("new", "x", "y", "x"), "x"), (("new", "y", "x", "x"), "x")]
        self.assertIsNotNone(self.meets(three, 3, middle))
        odd = [(("new", "x", "x", "y"), "y"), (("new", "x", "y", "y"), "x")]
        self.assertIsNotNone(self.meets(TWO, 3, odd))
        self.assertIsNone(self.meets(three, 3, odd))
        self.assertIsNone(self.meets(PickAlgebra(3), 3, middle))

    def test_arity_0(self):
        self.assertEqual(self.meets(SET, 0, [(("and", ("new",), "x"), "x")]), ("all",))
        self.assertEqual(self.meets(SET, 0, [(("or", ("new",), "x"), "x")]), ("none",))
        self.assertIsNone(self.meets(SET, 0, [(("new",), "x")]))
        self.assertEqual(self.meets(SIX, 0, [(("add", ("new",), ("new",)), ("new",))]), ("zero",))

    def test_no_term_at_all(self):
        self.assertIsNone(wanted(PickAlgebra(2), 0, []))
        self.assertIsNone(wanted(PickAlgebra(2), 0, [(("new",), ("new",))]))
        self.assertIsNone(wanted(made_algebra(["a"], []), 0, ()))

    def test_no_equations(self):
        for arity in (1, 2):
            self.assertEqual(depth_of(wanted(SIX, arity, [])), 0)
        self.assertEqual(wanted(SIX, 0, ()), ("zero",))
        self.assertEqual(depth_of(wanted(TWO, 3, [])), 0)

    def test_equations_without_the_new_sign(self):
        self.assertEqual(depth_of(self.meets(SIX, 1, [(("add", "x", "y"), ("add", "y", "x"))])), 0)
        self.assertIsNone(self.meets(SIX, 1, [(("add", "x", "y"), "x")]))
        self.assertIsNone(self.meets(SIX, 1, [("x", "y")]))

    def test_twice_in_one_another(self):
        self.assertEqual(self.meets(SIX, 1, [(TWICE, "x")]), "x0")
        self.assertEqual(self.meets(SIX, 1, [(TWICE, "x"), (("new", ("add", "x", "y")), ("add", ("new", "x"), ("new", "y"))), (
            ("add", ("new", "x"), "x"), ("zero",))]), ("back", "x0"))
        self.assertIsNone(self.meets(SIX, 1, [(TWICE, ("back", "x"))]))
        self.assertIsNotNone(self.meets(TurnAlgebra(5), 1, [(TWICE, ("back", "x"))]))
        self.assertIsNotNone(self.meets(SET, 2, [
            (("new", ("new", "x", "y"), "z"), ("new", "x", ("new", "y", "z"))), (("new", "x", "x"), ("none",)),
        ]))
        self.assertIsNone(self.meets(SET, 2, [(("new", "x", ("new", "y", "x")), ("not", "y"))]))
        self.assertIsNotNone(self.meets(SET, 2, [(("new", ("new", "x", "x"), ("new", "x", "x")), "x"), (
            ("new", "x", "x"), ("not", "x"))]))

    def test_unknowns_of_the_equations_are_their_own(self):
        # x0 and x1 of the equations are not those of the told term.
        self.assertEqual(self.meets(TWO, 2, [(("new", "x1", "x0"), "x0")]), "x1")
        self.assertEqual(self.meets(TWO, 2, [(("new", "x1", "x0"), "x1")]), "x0")
        self.assertEqual(self.meets(PickAlgebra(3), 2, [(("new", ("pick", "x1", "x0"), "x0"), "x1")]), "x0")
        self.assertEqual(self.meets(PickAlgebra(3), 2, [(("new", "x1", ("new", "x0", "x1")), "x1")]), "x0")
        self.assertEqual(self.meets(PickAlgebra(3), 3, [(("new", "x2", "x0", "x1"), "x1")]), "x2")

    def test_drawn_algebras(self):
        seen = {True: 0, False: 0}
        for algebra in some_algebras():
            if len(algebra) > 3:
                continue
            for arity in range(4):
                if arity == 3 and len(algebra) > 2:
                    continue
                asked = [("new", *"xyz"[:arity]), ("new", *"yzx"[:arity]), ("new", *"xxx"[:arity]), "x"]
                asked += [(sign, *"xy"[:many]) for sign, many in algebra.signature]
                asked.append(("new", *[asked[0], asked[1], "z"][:arity]))
                pairs = list(itertools.combinations(asked, 2))
                for equations in [[pair] for pair in pairs[::2]] + [list(both) for both in zip(pairs, pairs[3:])][::3]:
                    try:
                        wanted(algebra, arity, equations)
                    except TooMany:
                        continue
                    seen[self.meets(algebra, arity, equations) is not None] += 1
        self.assertGreater(min(seen.values()), 50)

    def test_few_parts_of_those_of_least_depth(self):
        # Two operations of no arguments that are wanted are of one depth, one of very many parts.
        names = [f"c{number}" for number in range(15)]
        down = [f"d{number}" for number in range(15)]
        steps = made_algebra([*names, *down], [
            ("both", 2, [
                names[min(names.index(one) + 1, 14)] if one == two and one in names else "d1" if one == two == "d0" else "d0"
                for one in names + down for two in names + down]),
            ("next", 1, [*["d1"] * 15, *down[1:], "d14"]),
            ("start", 0, ["c0"]),
            ("test", 1, [*names[:14], "c14", *down[:14], "c14"]),
        ])
        term = wanted(steps, 0, [(("test", ("new",)), ("test", ("test", ("new",)))), (("both", ("test", ("new",)), (
            "test", ("new",))), ("test", ("new",)))])
        self.assertEqual(value_of(steps, ("test", term), {}), "c14")
        self.assertEqual(depth_of(term), 15)
        self.assertLessEqual(many_parts(term), 2000)
        self.assertGreater(many_parts(made_by(steps, 0, ["c14"])), 2000)

    def test_bad_count_ahead_of_all(self):
        for arity in (4, -1, 10):
            self.raises(BadCount, {}, wanted, SIX, arity, [(None, "x")])
            self.raises(BadCount, {}, wanted, SIX, arity, [])

    def test_bad_terms(self):
        good = (("new", "x"), "x")
        for side in (
            ("new",), ("new", "x", "y"), ("new", "x", "x", "x"), ["new", "x"], ("new", ["x"]), None, 5, "", "X", (), ("add", "x"),
            ("times", "x", "y"), ("add", "x", ("new",)), ("New", "x"), ("new", ("new",)), "new x",
        ):
            for equations in (
                [(side, "x")], [("x", side)], [good, (side, "x")], [good, ("x", side), good], [("x", "y"), ("x", side)], ((side, side),),
            ):
                self.raises(BadTerm, {}, wanted, SIX, 1, equations)
        self.raises(BadTerm, {}, wanted, SIX, 0, [(("new", "x"), "x")])
        self.raises(BadTerm, {}, wanted, PickAlgebra(2), 0, [(("new", "x"), "x")])
        # A word may be called as the sign is.
        self.assertEqual(wanted(SIX, 1, [(("new", "new"), "new")]), "x0")

    def test_bad_terms_ahead_of_too_many(self):
        self.raises(BadTerm, {}, wanted, SIX, 3, [(("new", "x"), "x")])
        self.raises(TooMany, {}, wanted, SIX, 3, [(("new", "x", "y", "z"), "x")])
        self.raises(TooMany, {}, wanted, SIX, 3, [])
        self.raises(TooMany, {}, wanted, turning(65), 1, [(("new", "x"), "x")])
        self.raises(TooMany, {}, wanted, turning(49), 1, [("x", "y")])
        self.raises(TooMany, {}, wanted, SET, 3, [])
        self.assertEqual(wanted(turning(48), 1, [(("new", "x"), ("new", "x"))]), "x0")

    def test_equations_as_lists(self):
        self.assertEqual(wanted(SIX, 1, ([("add", "x", ("new", "x")), ("zero",)],)), ("back", "x0"))

    def test_large_algebras(self):
        turn = wanted(turning(48), 1, [(TWICE, ("g", ("g", "x")))])
        self.assertEqual(turn, ("g", "x0"))
        many = product(TWO, product(TWO, TWO))
        self.assertEqual(depth_of(wanted(many, 2, [(("new", "x", ("new", "x", "y")), "y"), (("new", "x", "x"), ("zero",))])), 1)
        self.assertIsNone(wanted(many, 2, [(("new", "x", "x"), "x"), (("new", "x", "y"), ("new", "y", "x"))]))

    def test_what_is_handed_in_stays(self):
        equations, before = [(TWICE, "x"), ["x", ("new", ("back", "x"))]], data_of(SIX)
        self.assertEqual(self.meets(SIX, 1, equations), ("back", "x0"))
        self.assertEqual(equations, [(TWICE, "x"), ["x", ("new", ("back", "x"))]])
        self.assertEqual(data_of(SIX), before)


if __name__ == "__main__":
    unittest.main()
