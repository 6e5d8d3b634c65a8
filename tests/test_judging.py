"""The judge of papers (point 19)."""

import copy
import itertools
import unittest

from equalkin.algebras import ChainAlgebra, PickAlgebra, SetAlgebra, TurnAlgebra, made_algebra
from equalkin.errors import MixedSigns, TooMany
from equalkin.judging import judge_kin
from equalkin.kin import kin_paper
from equalkin.maps import product
from tests.samples import SIGNATURES, Failing, data_of, scattered, tuples, value_of
from tests.test_equations import first_failing

SIX, TWO, THREE = TurnAlgebra(6), TurnAlgebra(2), TurnAlgebra(3)
# The rows of pairs of members of TWO lead to it by their first entries.
TABLE = ((("0", "0"), "0"), (("0", "1"), "0"), (("1", "0"), "1"), (("1", "1"), "1"))
DOUBLE = ("add", "x0", "x0")


def is_term(signature, thing):
    if isinstance(thing, str):
        return 0 < len(thing) < 13 and thing.isascii() and thing.isalnum() and thing[0].isalpha() and thing.islower()
    if not isinstance(thing, tuple) or not thing or not isinstance(thing[0], str):
        return False
    return (thing[0], len(thing) - 1) in signature and all(is_term(signature, inner) for inner in thing[1:])


def unknowns_of(term):
    return {term} if isinstance(term, str) else set().union(*[unknowns_of(inner) for inner in term[1:]])


def judged(first, second, paper):
    """Return the word that the document asks for, worked out step by step."""
    if type(paper) is tuple and len(paper) == 2 and paper[0] == "kin":
        return table_word(first, second, paper[1])
    if type(paper) is tuple and len(paper) == 4 and paper[0] == "parted":
        return equation_word(first, second, *paper[1:])
    return "form"


def table_word(first, second, table):
    if type(table) is not tuple:
        return "form"
    for entry in table:
        if type(entry) is not tuple or len(entry) != 2 or type(entry[0]) is not tuple:
            return "form"
        if not all(type(name) is str and name in first for name in entry[0]):
            return "form"
        if type(entry[1]) is not str or entry[1] not in second:
            return "form"
    rows = [entry[0] for entry in table]
    if len(set(rows)) < len(rows) or len({len(row) for row in rows}) > 1:
        return "form"
    member_of, width = dict(table), len(rows[0]) if rows else None
    asked = [(sign, given) for sign, arity in first.signature for given in tuples(rows, arity)]
    values = [
        None if width is None else tuple(first.value(sign, [row[at] for row in given]) for at in range(width))
        for sign, given in asked
    ]
    if any(value not in rows for value in values):
        return "closed"
    for (sign, given), value in zip(asked, values):
        if second.value(sign, [member_of[row] for row in given]) != member_of[value]:
            return "kept"
    return None if set(member_of.values()) == set(second.members()) else "onto"


def equation_word(first, second, left, right, values):
    if not is_term(first.signature, left) or not is_term(first.signature, right) or type(values) is not tuple:
        return "form"
    for entry in values:
        if type(entry) is not tuple or len(entry) != 2 or not is_term((), entry[0]):
            return "form"
        if type(entry[1]) is not str or entry[1] not in second:
            return "form"
    member_of = dict(values)
    if len(member_of) < len(values) or not unknowns_of(left) | unknowns_of(right) <= set(member_of):
        return "form"
    if first_failing(first, left, right) is not None:
        return "holds"
    return "fails" if value_of(second, left, member_of) == value_of(second, right, member_of) else None


def told_pairs():
    """Return tuples (first, second, paper) of algebras and the paper that is told of them."""
    pairs = [(SIX, THREE), (THREE, SIX), (SetAlgebra(1), SetAlgebra(2)), (ChainAlgebra(2), ChainAlgebra(3))]
    pairs += [(TWO, product(TWO, TWO)), (product(TWO, TWO), TurnAlgebra(4)), (SIX, TurnAlgebra(1)), (PickAlgebra(2),) * 2]
    pairs += [
        (scattered(one, 2, signature), scattered(one + two, 2 + two % 2, signature))
        for signature in SIGNATURES for one, two in itertools.product(range(4), range(3))
    ]
    found = []
    for first, second in pairs:
        try:
            found.append((first, second, kin_paper(first, second)))
        except TooMany:
            continue
    return found


TOLD = told_pairs()


class Told(Failing):
    def test_each_told_paper_is_right(self):
        self.assertGreater(len([paper for _, _, paper in TOLD if paper[0] == "kin"]), 10)
        self.assertGreater(len([paper for _, _, paper in TOLD if paper[0] == "parted"]), 10)
        for first, second, paper in TOLD:
            self.assertIsNone(judge_kin(first, second, paper))
            self.assertIsNone(judged(first, second, paper))

    def test_told_papers_with_parts_changed(self):
        words = {word: 0 for word in ("form", "closed", "kept", "onto", "holds", "fails", None)}
        for first, second, paper in TOLD:
            if len(paper) == 2 and len(paper[1]) > 16:
                continue
            for other in changed_papers(first, second, paper):
                word = judged(first, second, other)
                self.assertEqual(judge_kin(first, second, other), word, (first.signature, other))
                words[word] += 1
        self.assertGreater(min(words.values()), 10, words)

    def test_papers_of_other_algebras(self):
        for first, second, paper in TOLD:
            if len(paper) == 2 and len(paper[1]) > 16:
                continue
            for one, two in ((second, first), (first, first), (second, second)):
                self.assertEqual(judge_kin(one, two, paper), judged(one, two, paper))

    def test_changes_nothing(self):
        for first, second, paper in TOLD[:12]:
            before = copy.deepcopy(paper), data_of(first), data_of(second)
            judge_kin(first, second, paper)
            self.assertEqual((paper, data_of(first), data_of(second)), before)


def changed_papers(first, second, paper):
    """Return papers like this one with a part exchanged, left out, turned round, put in or made another."""
    found = [paper[:-1], paper[1:], paper[::-1], (*paper, paper[-1]), list(paper), ("kin", *paper[1:]), ("parted", *paper[1:])]
    if paper[0] == "kin":
        table = paper[1]
        found += [("kin", other) for other in changed_rows(table)]
        for number, (row, name) in enumerate(table[:6]):
            for entry in (
                (row, second.members()[0]), (row, second.members()[-1]), (name, row), (row,), [row, name], (list(row), name),
                (row[:-1], name), (row + row[:1], name), (row[::-1], name), ((*row[:-1], first.members()[0]), name),
                ((*row[:-1], "z9"), name), (row, "z9"), (row, None), (row, row), (row, name, name), ((*row[:-1], row), name),
            ):
                found.append(("kin", (*table[:number], entry, *table[number + 1:])))
        # The rows become longer or shorter, all of them.
        found.append(("kin", tuple([(row + row, name) for row, name in table])))
        found.append(("kin", tuple([(row[:-1], name) for row, name in table])))
        found.append(("kin", tuple([((), name) for row, name in table[:1]])))
        return found
    _, left, right, values = paper
    found += [("parted", one, two, values) for one, two in (
        (right, left), (left, left), ("x0", "x0"), (left, "x0"), (left, "q"), ("", right), (None, right), (left, list(right)),
        (left, (*right, "x0") if type(right) is tuple else (right,)), (left, left[1:] if type(left) is tuple else ()),
    )]
    found += [("parted", left, right, other) for other in changed_rows(values)]
    for number, (unknown, name) in enumerate(values):
        for entry in (
            (name, unknown), [unknown, name], (unknown,), (unknown, "z9"), ("9x", name), ("q", name), (unknown, None),
            (None, name), (unknown, second.members()[0]), (unknown, second.members()[-1]), ((unknown,), name), ([], name),
        ):
            found.append(("parted", left, right, (*values[:number], entry, *values[number + 1:])))
    found.append(("parted", left, right, (*values, ("further", second.members()[-1]))))
    return found


def changed_rows(rows):
    return [
        (), rows[1:], rows[:-1], rows[::-1], rows + rows[:1], rows + rows, list(rows), dict(rows), None, 5, "", (None,), ((),),
        (*rows, ()), (*rows, None), (*rows, rows),
    ]


class Tables(Failing):
    def word(self, word, table, first=TWO, second=TWO):
        self.assertEqual(judge_kin(first, second, ("kin", table)), word)
        self.assertEqual(judged(first, second, ("kin", table)), word)

    def test_right_ones(self):
        self.word(None, TABLE)
        self.word(None, TABLE[::-1])
        self.word(None, ((("0",), "0"), (("1",), "1")))
        self.word(None, ((("0", "0", "0"), "0"), (("1", "0", "1"), "1")))

    def test_form(self):
        for table in (
            list(TABLE), None, "", 0, {}, dict(TABLE), (None,), ("00",), TABLE[0], (TABLE,), (*TABLE, ()), (*TABLE, None),
            (list(TABLE[0]), *TABLE[1:]), ((["0", "0"], "0"), *TABLE[1:]), (("00", "0"), *TABLE[1:]), (*TABLE[:3], (("1", "1"),)),
            (*TABLE[:3], (("1", "1"), "1", "1")), (*TABLE[:3], (("1", "1"), "2")), (*TABLE[:3], (("1", "2"), "1")),
            (*TABLE[:3], (("1", None), "1")), (*TABLE[:3], (("1", ["1"]), "1")), (*TABLE[:3], (("1", "1"), None)),
            (*TABLE[:3], (("1", "1"), ["1"])), (*TABLE[:3], (("1", "1"), {})), (*TABLE[:3], (("1", {}), "1")),
        ):
            self.word("form", table)

    def test_form_of_rows(self):
        # Unlike lengths; a row twice, also with the same member.
        self.word("form", (*TABLE[:3], (("1",), "1")))
        self.word("form", (*TABLE[:3], (("1", "1", "1"), "1")))
        self.word("form", (*TABLE, ((), "0")))
        self.word("form", (*TABLE, TABLE[0]))
        self.word("form", (*TABLE, (("0", "0"), "1")))
        self.word("form", ((("0",), "0"), (("0",), "1"), (("1",), "1")))

    def test_members_of_the_right_algebra(self):
        table = kin_paper(SIX, THREE)[1]
        self.assertIsNone(judge_kin(SIX, THREE, ("kin", table)))
        self.word("form", tuple([(row, "5" if name == "2" else name) for row, name in table]), SIX, THREE)
        self.word("form", ((("5",), "0"),), THREE, SIX)

    def test_an_empty_table(self):
        self.word("closed", ())
        self.word("onto", (), PickAlgebra(2), PickAlgebra(2))
        self.word("onto", (), made_algebra(["a"], []), made_algebra(["a"], []))
        one = made_algebra(["a"], [("g", 1, ["a"]), ("k", 0, ["a"])])
        self.word("closed", (), one, one)

    def test_rows_of_no_members(self):
        self.word(None, (((), "0"),), TWO, TurnAlgebra(1))
        self.word(None, (((), "0"),), PickAlgebra(3), PickAlgebra(1))
        self.word("onto", (((), "0"),))
        self.word("kept", (((), "1"),))
        self.word("form", (((), "0"), ((), "0")))
        self.word("onto", (((), "1"),), PickAlgebra(2), PickAlgebra(2))

    def test_closed(self):
        for number in range(4):
            self.word("closed", (*TABLE[:number], *TABLE[number + 1:]))
        self.word("closed", ((("1",), "1"),))
        # By each operation: arity 0, 1 and 2.
        names = ["a", "b", "c"]
        for operation in (("k", 0, ["a"]), ("g", 1, ["a", "a", "a"]), ("f", 2, ["a"] * 9)):
            algebra = made_algebra(names, [("h", 1, names), operation])
            self.word("closed", ((("b",), "b"), (("c",), "c")), algebra, algebra)

    def test_kept(self):
        for number in range(4):
            row, name = TABLE[number]
            other = (row, "1" if name == "0" else "0")
            self.word("kept", (*TABLE[:number], other, *TABLE[number + 1:]))
        self.word("kept", ((("0",), "1"), (("1",), "0")))
        names = ["a", "b"]
        for operation in (("k", 0, ["a"]), ("g", 1, ["b", "b"]), ("f", 2, ["a", "a", "a", "b"])):
            algebra = made_algebra(names, [("h", 1, names), operation])
            self.word("kept", ((("a",), "b"), (("b",), "a")), algebra, algebra)

    def test_onto(self):
        self.word("onto", tuple([(row, "0") for row, _ in TABLE]))
        self.word("onto", ((("0",), "0"),))
        self.word("onto", ((("0",), "0"), (("1",), "3")), TWO, SIX)
        self.word("onto", ((("0",), "1"),), PickAlgebra(2), PickAlgebra(2))

    def test_the_first_word_is_told(self):
        # Form ahead of closed, closed ahead of kept, kept ahead of onto.
        self.word("form", (*TABLE[1:3], (("1", "1"), "4")))
        self.word("closed", ((("0", "0"), "1"), *TABLE[1:3]))
        self.word("closed", ((("1",), "0"),))
        self.word("kept", tuple([(row, "1") for row, _ in TABLE]))

    def test_large_tables(self):
        # 48 rows of 64 members.
        names = [str(number) for number in range(64)]
        first = made_algebra(names, [("g", 1, names[1:48] + names[:1] + names[48:])])
        second = made_algebra(names[:8], [("g", 1, names[1:8] + names[:1])])
        paper = kin_paper(first, second)
        self.assertEqual((len(paper[1]), len(paper[1][0][0])), (48, 64))
        self.assertIsNone(judge_kin(first, second, paper))
        self.assertEqual(judge_kin(first, second, ("kin", paper[1][:47])), "closed")
        table = (*paper[1][:47], (paper[1][47][0], paper[1][0][1]))
        self.assertEqual(judge_kin(first, second, ("kin", table)), "kept")


class Equations(Failing):
    def word(self, word, *told, first=THREE, second=SIX):
        self.assertEqual(judge_kin(first, second, ("parted", *told)), word)
        self.assertEqual(judged(first, second, ("parted", *told)), word)

    def test_right_ones(self):
        self.word(None, ("add", DOUBLE, "x0"), ("zero",), (("x0", "1"),))
        self.word(None, ("zero",), ("add", DOUBLE, "x0"), (("x0", "5"),))
        self.word(None, DOUBLE, ("back", "x0"), (("x1", "0"), ("x0", "1")))
        self.word(None, "x", "y", (("y", "5"), ("x", "0")), first=TurnAlgebra(1))
        self.word(None, ("none",), ("not", ("all",)), (), first=one_set(), second=odd_set())

    def test_further_unknowns(self):
        self.word(None, DOUBLE, ("back", "x0"), (("a", "0"), ("x0", "1"), ("b", "5")))
        self.word(None, DOUBLE, ("back", "x0"), (("a", "1"), ("b", "1"), ("x0", "5")))

    def test_form_of_terms(self):
        for thing in (None, 5, "", "X", "x 0", "0x", (), [], ["zero"], ("add", "x0"), ("times", "x0", "x0"), ("zero", "x0"),
                      ("add", "x0", ["zero"]), ("add", "x0", None), ((), "x0"), ("abcdefghijklm",), "abcdefghijklm", b"x0"):
            self.word("form", thing, "x0", (("x0", "1"),))
            self.word("form", "x0", thing, (("x0", "1"),))

    def test_form_of_values(self):
        for values in (
            None, "", 0, [], [("x0", "1")], {"x0": "1"}, (["x0", "1"],), ("x0", "1"), (("x0",),), (("x0", "1", "1"),), (("x0", "6"),),
            (("x0", ""),), (("x0", None),), (("x0", 1),), (("x0", ["1"]),), (("1", "x0"),), (("", "1"), ("x0", "1")),
            (("X", "1"), ("x0", "1")), ((None, "1"), ("x0", "1")), ((["x0"], "1"), ("x0", "1")), ((("x0",), "1"), ("x0", "1")),
            (("x0", "1"), ("x0", "1")), (("x0", "1"), ("x0", "2")), (("x0", "1"), ("a", "1"), ("a", "2")), (("x0", "1"), None),
            (("x0", "1"), ()), (("0a", "1"), ("x0", "1")), (("abcdefghijklm", "1"), ("x0", "1")),
        ):
            self.word("form", DOUBLE, ("back", "x0"), values)

    def test_form_of_missing_unknowns(self):
        self.word("form", DOUBLE, ("back", "x0"), ())
        self.word("form", DOUBLE, ("back", "x0"), (("x1", "1"),))
        self.word("form", ("add", "x0", "x1"), ("add", "x1", "x0"), (("x0", "1"),))
        self.word("form", "x0", ("add", "x0", "x1"), (("x0", "1"),))

    def test_holds(self):
        self.word("holds", DOUBLE, "x0", (("x0", "1"),))
        self.word("holds", "x0", "x1", (("x0", "1"), ("x1", "0")))
        self.word("holds", ("add", DOUBLE, "x0"), ("zero",), (("x0", "1"),), first=SIX, second=THREE)
        # The equation must hold at all members of the first algebra, not just where the sides are unlike in the second.
        self.word("holds", ("add", "x0", DOUBLE), ("zero",), (("x0", "1"),), first=TWO)

    def test_fails(self):
        self.word("fails", ("add", DOUBLE, "x0"), ("zero",), (("x0", "2"),))
        self.word("fails", ("add", DOUBLE, "x0"), ("zero",), (("x0", "0"),))
        self.word("fails", ("add", "x0", "x1"), ("add", "x1", "x0"), (("x0", "1"), ("x1", "2")))
        self.word("fails", "x0", "x0", (("x0", "1"),))
        self.word("fails", ("zero",), ("zero",), ())

    def test_the_first_word_is_told(self):
        self.word("form", DOUBLE, "x0", (("x0", "9"),))
        self.word("holds", DOUBLE, "x0", (("x0", "0"),))
        self.word("holds", "x0", "x1", (("x0", "1"), ("x1", "1")))


def one_set():
    return made_algebra(["a"], [("not", 1, ["a"]), ("none", 0, ["a"]), ("all", 0, ["a"])])


def odd_set():
    return made_algebra(["a", "b"], [("not", 1, ["a", "b"]), ("none", 0, ["a"]), ("all", 0, ["b"])])


class Others(Failing):
    def test_form_of_anything_else(self):
        for thing in (
            None, 5, "", "kin", "parted", (), [], {}, ("kin",), ("parted",), ("kin", TABLE, TABLE), ["kin", TABLE], (TABLE,), TABLE,
            ("Kin", TABLE), (None, TABLE), (["kin"], TABLE), (("kin",), TABLE), (TABLE, "kin"), ("parted", TABLE), ("kin", "x", "x", ()),
            ("parted", "x", "y"), ("parted", "x", "y", (("x", "0"), ("y", "1")), ()), ["parted", "x", "y", (("x", "0"), ("y", "1"))],
            ("parts", "x", "y", (("x", "0"), ("y", "1"))), (b"kin", TABLE), True, 0, ("kin", *TABLE), TWO, (TWO, TABLE),
        ):
            self.assertEqual(judge_kin(TWO, TWO, thing), "form")
            self.assertEqual(judge_kin(TurnAlgebra(1), TWO, thing), "form")

    def test_mixed_signs_ahead_of_all(self):
        for paper in (None, 5, (), ("kin", TABLE), ("kin", ()), ("parted", "x", "x", ())):
            self.raises(MixedSigns, {}, judge_kin, TWO, ChainAlgebra(2), paper)
            self.raises(MixedSigns, {}, judge_kin, made_algebra(["0"], []), TWO, paper)

    def test_algebras_that_are_too_great_for_kin(self):
        # The judge itself has no limits.
        bare = made_algebra([str(number) for number in range(9)], [])
        self.assertIsNone(judge_kin(bare, bare, ("kin", tuple([((name,), name) for name in bare.members()]))))
        self.assertIsNone(judge_kin(made_algebra(["0"], []), bare, ("parted", "x", "y", (("x", "0"), ("y", "8")))))


if __name__ == "__main__":
    unittest.main()
