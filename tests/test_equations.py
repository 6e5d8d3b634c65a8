"""Equations that fail (point 15)."""

import itertools
import unittest

from equalkin.algebras import ChainAlgebra, PickAlgebra, SetAlgebra, TurnAlgebra, made_algebra
from equalkin.equations import fails
from equalkin.errors import BadTerm
from equalkin.maps import product
from tests.samples import Failing, data_of, some_algebras, value_of

SIX = TurnAlgebra(6)


def some_terms(algebra, names):
    """Return terms over the names of at most two signs in one another, and some of three."""
    terms = list(names)
    for sign, arity in algebra.signature:
        terms += [(sign, *row) for row in itertools.product(names, repeat=arity)]
    deeper = []
    for sign, arity in algebra.signature:
        deeper += [(sign, *row) for row in itertools.product(terms[::3], repeat=arity)][:12]
    return terms + deeper + [(sign, *[deeper[-1]] * arity) for sign, arity in algebra.signature]


def first_failing(algebra, left, right):
    names = []
    for term in (left, right):
        stack = [term]
        while stack:
            inner = stack.pop()
            if isinstance(inner, str):
                if inner not in names:
                    names.append(inner)
            else:
                stack.extend(reversed(inner[1:]))
    for row in itertools.product(algebra.members(), repeat=len(names)):
        values = dict(zip(names, row))
        if value_of(algebra, left, values) != value_of(algebra, right, values):
            return values
    return None


class Fails(Failing):
    def same(self, told, wanted):
        self.assertEqual(told, wanted)
        if wanted is not None:
            self.assertIs(type(told), dict)
            self.assertEqual(list(told), list(wanted))

    def test_equations_that_hold(self):
        for left, right in (
            (("add", "x", "y"), ("add", "y", "x")), (("add", "x", ("back", "x")), ("zero",)), ("x", "x"),
            (("add", ("add", "x", "y"), "z"), ("add", "x", ("add", "y", "z"))), (("zero",), ("back", ("zero",))),
        ):
            self.assertIsNone(fails(SIX, left, right))
        self.assertIsNone(fails(TurnAlgebra(1), "x", "y"))
        self.assertIsNone(fails(TurnAlgebra(2), ("add", "x", "x"), ("add", "y", "y")))
        self.assertIsNone(fails(SetAlgebra(2), ("not", ("and", "a", "b")), ("or", ("not", "a"), ("not", "b"))))

    def test_first_values(self):
        self.same(fails(SIX, "x", "y"), {"x": "0", "y": "1"})
        self.same(fails(SIX, ("add", "x", "x"), "x"), {"x": "1"})
        self.same(fails(SIX, ("add", "x", ("add", "x", "x")), ("zero",)), {"x": "1"})
        self.same(fails(SIX, ("add", "x", ("add", "y", "y")), ("add", "x", ("back", "y"))), {"x": "0", "y": "1"})
        self.same(fails(ChainAlgebra(3), ("low", "b", "a"), "b"), {"b": "1", "a": "0"})
        self.same(fails(PickAlgebra(2), ("pick", "x", "y"), "y"), {"x": "0", "y": "1"})

    def test_members_in_the_order_of_the_algebra(self):
        turned = made_algebra(["c", "a", "b"], [("g", 1, ["c", "b", "a"])])
        self.same(fails(turned, "x", "y"), {"x": "c", "y": "a"})
        self.same(fails(turned, ("g", "x"), "x"), {"x": "a"})

    def test_order_of_the_unknowns(self):
        self.same(fails(SIX, ("add", "y", "x"), "z"), {"y": "0", "x": "0", "z": "1"})
        self.same(fails(SIX, "z", ("add", "y", ("add", "z", "x"))), {"z": "0", "y": "0", "x": "1"})
        self.same(fails(SIX, ("add", "x2", "x1"), ("add", "x1", "x0")), {"x2": "0", "x1": "0", "x0": "1"})

    def test_unknowns_of_the_right_side_alone(self):
        self.same(fails(SIX, ("zero",), "x"), {"x": "1"})
        self.same(fails(SIX, ("zero",), ("add", "b", "a")), {"b": "0", "a": "1"})
        self.same(fails(SIX, "x", ("add", "x", "w")), {"x": "0", "w": "1"})

    def test_no_unknowns(self):
        self.assertIsNone(fails(SIX, ("zero",), ("zero",)))
        self.same(fails(SetAlgebra(1), ("none",), ("all",)), {})
        self.same(fails(SetAlgebra(1), ("not", ("none",)), ("none",)), {})

    def test_unknowns_that_change_nothing(self):
        self.assertIsNone(fails(SIX, ("add", "x", ("add", "y", ("back", "y"))), "x"))
        self.same(fails(SIX, ("add", ("add", "y", ("back", "y")), "x"), ("zero",)), {"y": "0", "x": "1"})

    def test_walk_over_all_values(self):
        for algebra in some_algebras()[::2]:
            terms = some_terms(algebra, ["x", "y", "z"])
            pairs = list(itertools.product(terms, repeat=2))
            for left, right in pairs[::max(1, len(pairs) // 60)]:
                self.same(fails(algebra, left, right), first_failing(algebra, left, right))

    def test_bad_terms(self):
        for thing in ("", "X", "x y", ("add", "x"), ("times", "x", "y"), (), [], ["add", "x", "y"], None, 5, ("zero", "x"), "1x"):
            self.raises(BadTerm, {}, fails, SIX, thing, "x")
            self.raises(BadTerm, {}, fails, SIX, "x", thing)
            self.raises(BadTerm, {}, fails, SIX, thing, thing)
        # Also where one value would do to see that the sides are unlike.
        self.raises(BadTerm, {}, fails, TurnAlgebra(1), "x", ("add", "x", ["x"]))

    def test_as_many_ways_as_may_be_asked(self):
        wide = product(product(TurnAlgebra(3), TurnAlgebra(3)), TurnAlgebra(3))
        self.assertIsNone(fails(wide, ("add", ("add", "x", "y"), "z"), ("add", "x", ("add", "y", "z"))))
        self.same(
            fails(wide, ("add", ("add", "x", "y"), "z"), ("add", "x", ("add", "z", "z"))),
            {"x": "0/0/0", "y": "0/0/0", "z": "0/0/1"})
        two = ChainAlgebra(2)
        names = [f"x{number}" for number in range(14)]
        low, high = names[0], names[-1]
        for name in names[1:]:
            low = ("low", low, name)
        for name in names[-2::-1]:
            high = ("low", name, high)
        self.assertIsNone(fails(two, low, high))
        # The last one of 16384 ways alone tells them apart.
        self.same(fails(two, low, ("low", low, ("low", "y", "y"))), {**{name: "1" for name in names}, "y": "0"})

    def test_large_terms(self):
        term = "x"
        for _ in range(9):
            term = ("add", term, term)
        self.same(fails(SIX, term, "x"), {"x": "1"})
        self.assertIsNone(fails(TurnAlgebra(5), ("add", term, ("add", term, "x")), ("add", ("add", "x", term), term)))
        deep = "x"
        for _ in range(40):
            deep = ("back", deep)
        self.assertIsNone(fails(SIX, deep, "x"))
        self.same(fails(SIX, deep, ("back", "x")), {"x": "1"})

    def test_of_the_callers(self):
        before = data_of(SIX)
        told = fails(SIX, "x", "y")
        told.clear()
        self.assertEqual(fails(SIX, "x", "y"), {"x": "0", "y": "1"})
        self.assertEqual(data_of(SIX), before)


if __name__ == "__main__":
    unittest.main()
