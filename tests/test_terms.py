"""Terms (points 5 and 6)."""

import copy
import itertools
import unittest

from equalkin.algebras import Algebra, ChainAlgebra, PickAlgebra, SetAlgebra, TurnAlgebra, made_algebra
from equalkin.errors import BadTerm, NoValue, UnknownMember
from equalkin.terms import check_term, depth, replaced, size, term_value, unknowns

TURN = TurnAlgebra(3)

# Each way in which a thing is no term over the signature of TURN.
NO_TERMS = (
    "", "X", "0", "0x", "x" * 13, "x y", " x", "x\n", "x_", "\u00e9",
    (), ("x",), ("add",), ("times", "x", "y"), ("",), ("ADD", "x", "y"), (("zero",),), (("add", "x", "y"), "x", "y"),
    ("add", "x"), ("add", "x", "y", "z"), ("back",), ("back", "x", "y"), ("zero", "x"), ("zero", ()),
    ["add", "x", "y"], ["x"], [], ["zero"], ("add", ["x"], "y"), ("add", ["zero"], "y"), (["add"], "x", "y"),
    5, 0, 1, -1, None, True, False, 1.5, b"x", {}, {"x": "0"}, (None,), (5,), (True, "x"), (None, "x"), ({}, "x"),
    ("add", 5, "x"), ("add", None, "x"), ("add", True, "x"), ("back", ()), ("back", ("",)),
)

TERMS = (
    "x", "y", "add", "back", "zero", "a0123456789b", ("zero",), ("back", "x"), ("add", "x", "y"), ("add", "add", "zero"),
    ("add", ("back", ("zero",)), ("add", "x", ("back", "x"))),
)


def nested(many, inner):
    term = inner
    for _ in range(many):
        term = ("back", term)
    return term


def left_comb(many):
    term = "x0"
    for number in range(1, many + 1):
        term = ("add", term, "x" + str(number))
    return term


def full(levels):
    return "x" if levels == 0 else ("add", full(levels - 1), full(levels - 1))


class Check(unittest.TestCase):
    def refused(self, algebra, thing):
        with self.assertRaises(BadTerm) as caught:
            check_term(algebra, thing)
        self.assertIs(type(caught.exception), BadTerm)

    def test_terms(self):
        for term in TERMS:
            self.assertIsNone(check_term(TURN, term))

    def test_what_is_none(self):
        for thing in NO_TERMS:
            self.refused(TURN, thing)

    def test_what_is_none_at_any_place(self):
        for thing in NO_TERMS:
            self.refused(TURN, ("add", thing, "x"))
            self.refused(TURN, ("add", "x", thing))
            self.refused(TURN, ("add", ("zero",), ("back", ("add", ("back", thing), "x"))))
            self.refused(TURN, nested(39, thing))

    def test_terms_of_other_signatures(self):
        self.refused(ChainAlgebra(3), ("add", "x", "y"))
        self.assertIsNone(check_term(ChainAlgebra(3), ("low", "x", ("high", "y", "add"))))
        self.assertIsNone(check_term(SetAlgebra(1), ("or", ("not", "not"), ("all",))))
        self.refused(SetAlgebra(1), ("or", ("not", "not"), "All"))
        self.refused(SetAlgebra(1), ("all", "x"))

    def test_no_operations(self):
        empty = Algebra(["a"], [])
        self.assertIsNone(check_term(empty, "x"))
        self.refused(empty, ("a",))
        self.refused(empty, ())

    def test_made_algebras(self):
        algebra = made_algebra([f"{one}/b" for one in range(10)], [("f", 1, ["0/b"] * 10)])
        self.assertIsNone(check_term(algebra, ("f", ("f", "x"))))
        self.refused(algebra, ("f", "0/b"))
        self.refused(algebra, ("f",))

    def test_great_terms(self):
        self.assertIsNone(check_term(TURN, nested(40, "x")))
        self.assertIsNone(check_term(TURN, left_comb(40)))
        self.assertIsNone(check_term(TURN, full(9)))
        self.assertIsNone(check_term(TURN, nested(31, full(9))))
        self.refused(TURN, nested(40, ()))

    def test_great_things_that_are_none(self):
        wide = ("add", *["x"] * 2000)
        self.refused(TURN, wide)
        thing = ()
        for _ in range(40):
            thing = (thing,)
        self.refused(TURN, thing)
        thing = []
        for _ in range(40):
            thing = [thing, "x"]
        self.refused(TURN, thing)

    def test_nothing_is_modified(self):
        for thing in (["add", ["x"], "y"], ("add", ["x"], {"y": ["z"]}), (["add"], "x")):
            before = copy.deepcopy(thing)
            self.refused(TURN, thing)
            self.assertEqual(thing, before)


class Measures(unittest.TestCase):
    def test_unknowns(self):
        self.assertEqual(unknowns("x"), ["x"])
        self.assertEqual(unknowns(("zero",)), [])
        self.assertEqual(unknowns(("add", "y", "x")), ["y", "x"])
        self.assertEqual(unknowns(("add", "x", "x")), ["x"])
        self.assertEqual(unknowns(("add", ("add", "z", ("back", "y")), ("add", "x", "z"))), ["z", "y", "x"])
        self.assertEqual(unknowns(("add", ("back", ("add", "b", "a")), ("add", "c", "b"))), ["b", "a", "c"])

    def test_unknowns_called_like_signs(self):
        self.assertEqual(unknowns(("add", "zero", ("back", "add"))), ["zero", "add"])
        self.assertEqual(unknowns(("add", ("zero",), ("back", "back"))), ["back"])

    def test_unknowns_belong_to_the_caller(self):
        term = ("add", "x", "y")
        unknowns(term).append("z")
        self.assertEqual(unknowns(term), ["x", "y"])
        self.assertIsInstance(unknowns(term), list)

    def test_size(self):
        told = {"x": 0, ("zero",): 1, ("back", "x"): 1, ("add", "x", "y"): 1, ("add", "add", "add"): 1,
                ("add", ("zero",), ("back", ("zero",))): 4, ("back", ("back", ("back", "x"))): 3}
        for term, many in told.items():
            self.assertEqual(size(term), many)

    def test_depth(self):
        told = {"x": 0, ("zero",): 1, ("back", "x"): 1, ("add", "x", "y"): 1, ("add", ("zero",), "x"): 2,
                ("add", "x", ("zero",)): 2, ("add", ("back", ("back", "x")), ("zero",)): 3,
                ("add", ("zero",), ("back", ("zero",))): 3}
        for term, many in told.items():
            self.assertEqual(depth(term), many)

    def test_great_terms(self):
        self.assertEqual((size(nested(40, "x")), depth(nested(40, "x"))), (40, 40))
        self.assertEqual((size(nested(39, ("zero",))), depth(nested(39, ("zero",)))), (40, 40))
        self.assertEqual((size(full(9)), depth(full(9)), unknowns(full(9))), (511, 9, ["x"]))
        self.assertEqual((size(left_comb(40)), depth(left_comb(40))), (40, 40))
        self.assertEqual(unknowns(left_comb(40)), ["x" + str(number) for number in range(41)])

    def test_signs_of_any_signature(self):
        self.assertEqual(unknowns(("three", "c", "a", "b")), ["c", "a", "b"])
        self.assertEqual((size(("three", "c", "a", "b")), depth(("three", "c", ("k",), "b"))), (1, 2))


class Replaced(unittest.TestCase):
    def test_unknowns(self):
        self.assertEqual(replaced("x", {"x": ("zero",)}), ("zero",))
        self.assertEqual(replaced("x", {"y": ("zero",)}), "x")
        self.assertEqual(replaced("x", {}), "x")

    def test_all_places(self):
        term = ("add", "x", ("add", ("back", "x"), "y"))
        self.assertEqual(replaced(term, {"x": ("zero",)}), ("add", ("zero",), ("add", ("back", ("zero",)), "y")))
        self.assertEqual(replaced(term, {"z": "x"}), term)
        self.assertEqual(replaced(("zero",), {"zero": "x"}), ("zero",))

    def test_all_at_once(self):
        term = ("add", "x", ("add", "y", "x"))
        self.assertEqual(replaced(term, {"x": "y", "y": "x"}), ("add", "y", ("add", "x", "y")))
        self.assertEqual(replaced(term, {"y": "x", "x": "y"}), ("add", "y", ("add", "x", "y")))
        self.assertEqual(replaced("x", {"x": "y", "y": "z", "z": "x"}), "y")
        self.assertEqual(replaced("x", {"x": ("back", "x")}), ("back", "x"))
        image = ("add", "y", "y")
        self.assertEqual(replaced(("add", "x", "y"), {"x": image, "y": "x"}), ("add", image, "x"))

    def test_signs_are_not_replaced(self):
        term = ("add", "add", ("back", "back"))
        self.assertEqual(replaced(term, {"add": "x", "back": "y"}), ("add", "x", ("back", "y")))

    def test_the_answer_is_a_term(self):
        term = replaced(left_comb(20), {"x0": left_comb(20), "x7": nested(20, "x")})
        self.assertIsNone(check_term(TURN, term))
        self.assertEqual(depth(term), 40)
        self.assertEqual(size(term), 60)

    def test_nothing_is_modified(self):
        term, images = ("add", "x", "y"), {"x": ("back", "y"), "y": "x"}
        replaced(term, images)
        self.assertEqual(term, ("add", "x", "y"))
        self.assertEqual(images, {"x": ("back", "y"), "y": "x"})


class TermValue(unittest.TestCase):
    def raised(self, kind, term, values):
        with self.assertRaises(kind) as caught:
            term_value(TURN, term, values)
        self.assertIs(type(caught.exception), kind)
        return caught.exception

    def test_values(self):
        self.assertEqual(term_value(TURN, "x", {"x": "2"}), "2")
        self.assertEqual(term_value(TURN, ("zero",), {}), "0")
        self.assertEqual(term_value(TURN, ("back", ("add", "x", "y")), {"x": "2", "y": "2"}), "2")
        self.assertEqual(term_value(PickAlgebra(2), ("pick", "x", "y"), {"x": "0", "y": "1"}), "0")
        self.assertEqual(term_value(PickAlgebra(2), ("pick", "y", "x"), {"x": "0", "y": "1"}), "1")

    def test_all_values_of_a_term(self):
        term = ("add", ("add", "x", ("back", "y")), ("add", "x", "z"))
        for row in itertools.product(range(3), repeat=3):
            values = {name: str(number) for name, number in zip("xyz", row)}
            self.assertEqual(term_value(TURN, term, values), str((2 * row[0] - row[1] + row[2]) % 3))

    def test_unknowns_called_like_signs(self):
        values = {"add": "1", "zero": "2", "back": "0"}
        self.assertEqual(term_value(TURN, ("add", "add", "zero"), values), "0")
        self.assertEqual(term_value(TURN, ("add", ("zero",), "zero"), values), "2")

    def test_great_terms(self):
        self.assertEqual(term_value(TURN, nested(40, "x"), {"x": "1"}), "1")
        self.assertEqual(term_value(TURN, nested(39, "x"), {"x": "1"}), "2")
        self.assertEqual(term_value(TURN, full(9), {"x": "2"}), str(2 * 512 % 3))
        values = {"x" + str(number): str(number % 3) for number in range(41)}
        self.assertEqual(term_value(TURN, left_comb(40), values), str(sum(range(41)) % 3))

    def test_made_algebras(self):
        names = [f"t {number}" for number in range(20)]
        algebra = made_algebra(names, [("next", 1, names[1:] + names[:1]), ("first", 0, names[:1])])
        self.assertEqual(term_value(algebra, ("next", ("next", "x")), {"x": "t 18"}), "t 0")
        self.assertEqual(term_value(algebra, ("next", ("first",)), {}), "t 1")

    def test_bad_terms(self):
        for thing in NO_TERMS:
            self.raised(BadTerm, thing, {"x": "0", "y": "0"})
            self.raised(BadTerm, ("add", "x", thing), {"x": "0", "y": "0"})

    def test_bad_terms_come_ahead_of_all_else(self):
        self.raised(BadTerm, ("add", "x", ("zero", "y")), {})
        self.raised(BadTerm, ("add", "x", "Y"), {"x": "7"})
        self.raised(BadTerm, ("times", "x", "y"), {"x": "0", "y": "7"})

    def test_no_value(self):
        self.assertEqual(self.raised(NoValue, "x", {}).name, "x")
        self.assertEqual(self.raised(NoValue, "x", {"y": "0"}).name, "x")
        self.assertEqual(self.raised(NoValue, ("add", "x", "y"), {"x": "0"}).name, "y")
        self.assertEqual(self.raised(NoValue, ("add", ("back", "z"), "y"), {}).name, "z")

    def test_unknown_member(self):
        for odd in ("3", "", "x", "00", None, 0, True, ["0"], ("0",), ("zero",)):
            self.assertEqual(self.raised(UnknownMember, "x", {"x": odd}).name, odd)
            self.assertEqual(self.raised(UnknownMember, ("add", "y", "x"), {"y": "0", "x": odd}).name, odd)

    def test_unknown_by_unknown(self):
        term = ("add", ("back", "y"), ("add", "x", "y"))
        self.assertEqual(self.raised(UnknownMember, term, {"y": "7"}).name, "7")
        self.assertEqual(self.raised(NoValue, term, {"x": "7"}).name, "y")
        self.assertEqual(self.raised(UnknownMember, term, {"x": "7", "y": "8"}).name, "8")
        self.assertEqual(self.raised(UnknownMember, term, {"x": "7", "y": "1"}).name, "7")
        self.assertEqual(self.raised(NoValue, term, {"y": "1"}).name, "x")

    def test_further_entries_have_no_effect(self):
        values = {"x": "1", "y": "7", "Z": None, "zero": "9", "add": "5", "": "0"}
        self.assertEqual(term_value(TURN, ("add", "x", ("add", "x", ("zero",))), values), "2")
        self.assertEqual(term_value(TURN, ("zero",), {"zero": "7"}), "0")

    def test_nothing_is_modified(self):
        term, values = ("add", "x", ("back", "y")), {"x": "1", "y": "2", "z": "7"}
        term_value(TURN, term, values)
        self.raised(NoValue, ("add", "x", "w"), values)
        self.assertEqual(term, ("add", "x", ("back", "y")))
        self.assertEqual(values, {"x": "1", "y": "2", "z": "7"})
        self.assertEqual(TURN, TurnAlgebra(3))


if __name__ == "__main__":
    unittest.main()
