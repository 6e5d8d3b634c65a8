"""Algebras (points 1, 2 and 4)."""

import copy
import itertools
import unittest

from equalkin.algebras import Algebra, ChainAlgebra, PickAlgebra, TurnAlgebra, made_algebra
from equalkin.errors import BadAlgebra, BadCount, UnknownMember, UnknownSign

# The values of "mix" tell the two orders of a tuple of arguments apart.
MIX = ("mix", 2, ["a", "b", "c", "b", "b", "a", "c", "a", "a"])
STEP = ("step", 1, ["b", "c", "a"])
REST = ("rest", 0, ["c"])
ABC = ["a", "b", "c"]


def abc():
    return Algebra(ABC, [MIX, STEP, REST])


class Odd:
    """No algebra, though it claims to be equal to anything."""

    def __eq__(self, other):
        return True


class Alike:
    """No algebra, though it has all that can be seen of one."""

    def __init__(self, algebra):
        vars(self).update(vars(algebra))


class Told(unittest.TestCase):
    def test_members_and_signature(self):
        algebra = abc()
        self.assertEqual(algebra.members(), ["a", "b", "c"])
        self.assertIsInstance(algebra.members(), list)
        self.assertEqual(algebra.signature, (("mix", 2), ("step", 1), ("rest", 0)))
        self.assertIsInstance(algebra.signature, tuple)
        self.assertEqual({type(row) for row in algebra.signature}, {tuple})

    def test_values_go_by_the_order_of_the_tuples(self):
        algebra = abc()
        tuples = list(itertools.product("abc", repeat=2))
        self.assertEqual([algebra.value("mix", list(row)) for row in tuples], MIX[2])
        self.assertEqual(algebra.value("mix", ["a", "c"]), "c")
        self.assertEqual(algebra.value("mix", ["b", "a"]), "b")
        self.assertEqual([algebra.value("step", [name]) for name in "abc"], STEP[2])
        self.assertEqual(algebra.value("rest", []), "c")

    def test_the_order_of_members_is_the_told_one(self):
        algebra = Algebra(["z", "10", "9", "a"], [("f", 1, ["10", "9", "a", "z"])])
        self.assertEqual(algebra.members(), ["z", "10", "9", "a"])
        self.assertEqual([algebra.value("f", [name]) for name in ("z", "10", "9", "a")], ["10", "9", "a", "z"])

    def test_one_to_six_members(self):
        for many in range(1, 7):
            names = ["m" + str(number) for number in range(many)]
            algebra = Algebra(names, [("f", 2, names * many), ("g", 1, names), ("h", 0, names[-1:])])
            self.assertEqual(algebra.members(), names)
            self.assertEqual(len(algebra), many)
            self.assertEqual(algebra.value("f", [names[-1], names[0]]), names[0])

    def test_no_operations_and_five(self):
        self.assertEqual(Algebra(["a"], []).signature, ())
        signs = ["f", "g", "h", "i", "j"]
        algebra = Algebra(["a"], [(sign, 1, ["a"]) for sign in signs])
        self.assertEqual([row[0] for row in algebra.signature], signs)

    def test_names_of_all_forms(self):
        names = ["a", "0", "012345678901", "zzzzzzzzzzzz", "0a9z", "9"]
        self.assertEqual(Algebra(names, []).members(), names)
        for sign in ("a", "z9", "abcdefghijkl", "a0123456789b", "x0"):
            self.assertEqual(Algebra(["a"], [(sign, 0, ["a"])]).signature, ((sign, 0),))

    def test_a_sign_may_be_called_like_a_member(self):
        self.assertEqual(Algebra(["a", "b"], [("a", 1, ["b", "a"])]).value("a", ["a"]), "b")


class Bad(unittest.TestCase):
    def refused(self, members, operations):
        with self.assertRaises(BadAlgebra) as caught:
            Algebra(members, operations)
        self.assertIs(type(caught.exception), BadAlgebra)

    def test_no_members_and_seven(self):
        self.refused([], [])
        self.refused((), [])
        self.refused([], [("f", 1, [])])
        self.refused(list("abcdefg"), [])

    def test_members_of_no_form(self):
        odd = ["", "a" * 13, "0" * 13, "A", "aB", " ", "a ", " a", "a b", "a/b", "a_b", "a\n", "\n", "-1", "\u00e9",
               "\u00b2", "\u0661", None, 1, True, ["a"], ("a",), b"a"]
        for name in odd:
            self.refused([name], [])
            self.refused(["a", "b", name], [])
            self.refused([name, "a"], [("f", 0, ["a"])])

    def test_members_told_twice(self):
        self.refused(["a", "a"], [])
        self.refused(["a", "b", "c", "a"], [("f", 0, ["a"])])

    def test_six_operations(self):
        self.refused(["a"], [(sign, 0, ["a"]) for sign in "fghijk"])

    def test_signs_that_are_no_words(self):
        odd = ["", "0", "0a", "9", "a" * 13, "A", "fG", "f g", " f", "f ", "f\n", "+", "f_", "\u00e9", None, 5, True,
               ["f"], ("f",)]
        for sign in odd:
            self.refused(["a"], [(sign, 0, ["a"])])
            self.refused(["a"], [("f", 0, ["a"]), (sign, 0, ["a"])])

    def test_signs_told_twice(self):
        self.refused(["a"], [("f", 0, ["a"]), ("f", 0, ["a"])])
        self.refused(["a"], [("f", 0, ["a"]), ("g", 1, ["a"]), ("f", 2, ["a"])])

    def test_arities(self):
        for arity in (-1, 3, 4, 100, "0", "1", "", None, [], [1], (1,), (), {}, True, False, 0.5, 1.5):
            for values in ([], ["a"]):
                self.refused(["a"], [("f", arity, values)])
        self.refused(["a", "b"], [("f", 3, ["a"] * 8)])
        self.refused(["a", "b"], [("f", True, ["a", "b"])])
        self.refused(["a", "b"], [("f", False, ["a"])])
        self.refused(["a", "b"], [("f", -1, ["a"] * 4)])

    def test_values_too_many_or_too_few(self):
        for arity, right in ((0, 1), (1, 3), (2, 9)):
            Algebra(ABC, [("f", arity, ["a"] * right)])
            for many in {0, right - 1, right + 1}:
                self.refused(ABC, [("f", arity, ["a"] * many)])
        self.refused(ABC, [("f", 1, ["a"] * 9)])
        self.refused(ABC, [STEP, ("f", 2, ["a"] * 3)])

    def test_values_that_are_no_members(self):
        for value in ("d", "", "A", "aa", None, 0, True, ["a"], ("a",)):
            self.refused(ABC, [("f", 0, [value])])
            self.refused(ABC, [("f", 1, ["a", "b", value])])
            self.refused(ABC, [("f", 2, ["a"] * 4 + [value] + ["a"] * 4)])
            self.refused(ABC, [MIX, STEP, REST, ("f", 1, [value, "b", "c"])])


class Kept(unittest.TestCase):
    def test_lists_as_tuples_and_tuples_as_lists(self):
        told = abc()
        as_tuples = Algebra(tuple(ABC), tuple((sign, arity, tuple(values)) for sign, arity, values in told_again()))
        as_lists = Algebra(list(ABC), [[sign, arity, list(values)] for sign, arity, values in told_again()])
        for algebra in (as_tuples, as_lists):
            self.assertEqual(algebra, told)
            self.assertIsInstance(algebra.members(), list)
            self.assertEqual(algebra.signature, (("mix", 2), ("step", 1), ("rest", 0)))
            self.assertEqual({type(row) for row in algebra.signature}, {tuple})
            self.assertEqual(algebra.value("mix", ("a", "c")), "c")
            self.assertEqual(algebra.value("rest", ()), "c")

    def test_nothing_that_is_passed_is_modified(self):
        members, operations = list(ABC), told_again()
        Algebra(members, operations)
        made_algebra(members, operations)
        self.assertEqual((members, operations), (ABC, told_again()))
        arguments = ["a", "c"]
        abc().value("mix", arguments)
        self.assertEqual(arguments, ["a", "c"])

    def test_nothing_that_is_passed_is_kept(self):
        for make in (Algebra, made_algebra):
            members, operations = list(ABC), told_again()
            algebra = make(members, operations)
            for operation in operations:
                operation[2].clear()
                operation[0] = "other"
            operations.clear()
            members[0] = "z"
            members.append("d")
            self.assertEqual(algebra, abc())
            self.assertEqual(algebra.members(), ABC)
            self.assertEqual([algebra.value("step", [name]) for name in "abc"], STEP[2])
            self.assertEqual(len(algebra), 3)

    def test_what_is_told_belongs_to_the_caller(self):
        algebra = abc()
        told = algebra.members()
        told.reverse()
        told.append("d")
        self.assertEqual(algebra.members(), ABC)
        self.assertEqual(algebra, abc())
        self.assertNotIn("d", algebra)
        self.assertIsNot(algebra.members(), algebra.members())


def told_again():
    return [[sign, arity, list(values)] for sign, arity, values in (MIX, STEP, REST)]


class Value(unittest.TestCase):
    def raised(self, kind, sign, arguments):
        with self.assertRaises(kind) as caught:
            abc().value(sign, arguments)
        self.assertIs(type(caught.exception), kind)
        return caught.exception

    def test_unknown_sign(self):
        for sign in ("add", "", "Mix", "mi", "a"):
            self.assertEqual(self.raised(UnknownSign, sign, ["a", "b"]).name, sign)

    def test_bad_count(self):
        for sign, right in (("mix", 2), ("step", 1), ("rest", 0)):
            for many in {0, 1, 2, 3} - {right}:
                self.raised(BadCount, sign, ["a"] * many)

    def test_unknown_member(self):
        for name in ("d", "", "A", "aa"):
            self.assertEqual(self.raised(UnknownMember, "mix", ["a", name]).name, name)
            self.assertEqual(self.raised(UnknownMember, "mix", [name, "a"]).name, name)
            self.assertEqual(self.raised(UnknownMember, "step", [name]).name, name)

    def test_the_first_argument_that_is_none(self):
        self.assertEqual(self.raised(UnknownMember, "mix", ["y", "x"]).name, "y")
        self.assertEqual(self.raised(UnknownMember, "mix", ("x", "y")).name, "x")

    def test_the_order_of_the_errors(self):
        self.assertEqual(self.raised(UnknownSign, "add", ["x", "y", "z"]).name, "add")
        self.assertEqual(self.raised(UnknownSign, "add", ["x", "y"]).name, "add")
        self.assertEqual(self.raised(UnknownSign, "add", []).name, "add")
        self.raised(BadCount, "mix", ["x"])
        self.raised(BadCount, "step", ["x", "y"])
        self.raised(BadCount, "rest", ["x"])


class Signs(unittest.TestCase):
    def test_in(self):
        algebra = abc()
        for name in ABC:
            self.assertIs(name in algebra, True)
        for name in ("d", "", "A", "ab", "mix", None, 0, True, ["a"], ("a",), {}, algebra):
            self.assertIs(name in algebra, False)

    def test_len(self):
        self.assertEqual(len(abc()), 3)
        self.assertEqual(len(Algebra(["a"], [REST[:2] + (["a"],)])), 1)

    def test_the_same_algebra(self):
        self.assertIs(abc() == abc(), True)
        self.assertIs(abc() != abc(), False)
        self.assertIs(abc() == copy.deepcopy(abc()), True)
        self.assertIs(Algebra(["a"], []) == Algebra(["a"], []), True)

    def test_other_members(self):
        self.assertIs(Algebra(["a", "b"], []) == Algebra(["a", "c"], []), False)
        self.assertIs(Algebra(["a", "b"], []) == Algebra(["a"], []), False)
        self.assertIs(Algebra(["a", "b"], []) != Algebra(["a"], []), True)

    def test_another_order_of_members(self):
        self.assertIs(Algebra(["a", "b"], []) == Algebra(["b", "a"], []), False)
        one = Algebra(["a", "b"], [("f", 1, ["b", "a"])])
        self.assertIs(one == Algebra(["b", "a"], [("f", 1, ["a", "b"])]), False)

    def test_another_signature(self):
        one = Algebra(["a"], [("f", 1, ["a"])])
        self.assertIs(one == Algebra(["a"], [("g", 1, ["a"])]), False)
        self.assertIs(one == Algebra(["a"], [("f", 2, ["a"])]), False)
        self.assertIs(one == Algebra(["a"], [("f", 0, ["a"])]), False)
        self.assertIs(one == Algebra(["a"], []), False)
        self.assertIs(one == Algebra(["a"], [("f", 1, ["a"]), ("g", 1, ["a"])]), False)

    def test_another_order_of_operations(self):
        self.assertIs(abc() == Algebra(ABC, [STEP, MIX, REST]), False)

    def test_other_values(self):
        for place in range(9):
            values = list(MIX[2])
            values[place] = "b" if values[place] != "b" else "a"
            self.assertIs(abc() == Algebra(ABC, [("mix", 2, values), STEP, REST]), False)
        self.assertIs(abc() == Algebra(ABC, [MIX, STEP, ("rest", 0, ["a"])]), False)

    def test_what_is_no_algebra(self):
        for thing in (None, 0, True, "a", ABC, tuple(ABC), {}, [ABC, [MIX, STEP, REST]], abc().signature, Algebra, Odd(),
                      Alike(abc())):
            self.assertIs(abc() == thing, False)
            self.assertIs(abc() != thing, True)

    def test_another_class_with_the_same_data(self):
        lows = ("low", 2, ["0", "0", "0", "1"])
        highs = ("high", 2, ["0", "1", "1", "1"])
        for one, other in itertools.permutations([
            ChainAlgebra(2), Algebra(["0", "1"], [lows, highs]), made_algebra(["0", "1"], [lows, highs]),
        ], 2):
            self.assertIs(one == other, True)
            self.assertIs(one != other, False)
        self.assertIs(TurnAlgebra(2) == ChainAlgebra(2), False)
        self.assertIs(PickAlgebra(1) == made_algebra(["0"], [("pick", 2, ["0"])]), True)
        self.assertIs(PickAlgebra(1) == made_algebra(["0"], [("pick", 1, ["0"])]), False)


class Made(unittest.TestCase):
    def test_it_is_an_algebra(self):
        algebra = made_algebra(ABC, [MIX, STEP, REST])
        self.assertIsInstance(algebra, Algebra)
        self.assertIs(algebra == abc(), True)
        self.assertIs(abc() == algebra, True)
        self.assertEqual(algebra.members(), ABC)
        self.assertEqual(algebra.signature, abc().signature)
        self.assertEqual(len(algebra), 3)

    def test_tuples_and_lists(self):
        algebra = made_algebra(tuple(ABC), tuple(tuple(row) for row in told_again()))
        self.assertEqual(algebra, abc())
        self.assertEqual(made_algebra(ABC, told_again()), abc())
        self.assertEqual({type(row) for row in made_algebra(ABC, told_again()).signature}, {tuple})

    def test_many_members_of_any_names(self):
        names = [f"{one}/{two}" for one in range(8) for two in range(8)]
        seconds = [two for _ in names for two in names]
        algebra = made_algebra(names, [("second", 2, seconds), ("back", 1, names[::-1]), ("top", 0, names[-1:])])
        self.assertEqual(len(algebra), 64)
        self.assertEqual(algebra.members(), names)
        self.assertEqual(algebra.value("second", ["0/3", "7/1"]), "7/1")
        self.assertEqual(algebra.value("second", ["7/1", "0/3"]), "0/3")
        self.assertEqual(algebra.value("back", ["0/1"]), "7/6")
        self.assertEqual(algebra.value("top", []), "7/7")
        self.assertIn("4/4", algebra)
        self.assertNotIn("4/8", algebra)

    def test_names_of_no_form(self):
        names = ["", " ", "A", "a" * 50, "\n", "\u00e9", "a b", "{}"]
        algebra = made_algebra(names, [("turned", 1, names[::-1])])
        self.assertEqual(algebra.members(), names)
        for one, other in zip(names, reversed(names)):
            self.assertIn(one, algebra)
            self.assertEqual(algebra.value("turned", [one]), other)

    def test_one_member_and_more_than_five_operations(self):
        algebra = made_algebra(["x"], [(sign, 0, ["x"]) for sign in "abcdefgh"])
        self.assertEqual(len(algebra), 1)
        self.assertEqual(len(algebra.signature), 8)

    def test_errors_of_value(self):
        algebra = made_algebra([str(number) for number in range(10)], [("f", 1, ["0"] * 10)])
        self.assertRaises(UnknownSign, algebra.value, "g", ["a", "b"])
        self.assertRaises(BadCount, algebra.value, "f", ["a", "b"])
        with self.assertRaises(UnknownMember) as caught:
            algebra.value("f", ["10"])
        self.assertEqual(caught.exception.name, "10")


if __name__ == "__main__":
    unittest.main()
