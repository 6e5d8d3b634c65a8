"""What the document promises over the whole program (points 1 and 4)."""

import copy
import unittest

from equalkin.algebras import Algebra, ChainAlgebra, SetAlgebra, TurnAlgebra, made_algebra
from equalkin.bench import Bench
from equalkin.equations import fails
from equalkin.errors import TooMany
from equalkin.free import Free
from equalkin.judging import judge_kin
from equalkin.kin import kin, kin_paper, same_equations
from equalkin.linkings import chain, check_linking, judge_chain, linked
from equalkin.maps import Map, all_maps, product, renaming
from equalkin.parts import all_parts, closed, generators, part, term_to
from equalkin.quotients import all_linkings, heart, joined, kernel, met, quotient, to_quotient
from equalkin.speech import bar, judge_bar, made_by, speaks, wanted
from equalkin.terms import check_term, replaced, term_value, unknowns
from equalkin.texts import read_term, write_term
from tests.samples import Failing, data_of, tuples

TWO, SIX = TurnAlgebra(2), TurnAlgebra(6)


def turned_into(thing, kind):
    """Return the thing with each list in it, also one within another one, as this kind, and strings as they are."""
    return kind([turned_into(inner, kind) for inner in thing]) if isinstance(thing, list) else thing


def made_ones():
    """Return algebras of other functions' making, each with two members or more."""
    half = Free(SIX, 1)
    return [
        product(TWO, TurnAlgebra(3)), part(SIX, ["0", "2", "4"]), quotient(SIX, [["0", "2", "4"], ["1", "3", "5"]]), half.algebra,
        made_algebra(["A b", "", "x/(y)", "one two"], [("g", 1, ["", "x/(y)", "one two", "A b"]), ("k", 0, [""])]),
        product(part(SIX, ["0", "3"]), quotient(SIX, [["0", "2", "4"], ["1", "3", "5"]])), Free(SetAlgebra(1), 1).algebra,
        quotient(product(ChainAlgebra(2), ChainAlgebra(2)), [["0/0", "0/1"], ["1/0", "1/1"]]), to_quotient(SIX, [SIX.members()]).source,
        Map.same(product(TWO, TWO)).target, Bench(Free(TWO, 1).algebra, ["a"]).algebra, product(half.algebra, TWO),
        made_algebra(["", "%", "t0"], [("f", 2, ["%", "", "t0", "t0", "t0", "%", "", "", "%"])]),
    ]


MADE = made_ones()


class LikeOthers(Failing):
    """Algebras that functions make are algebras like others for all functions."""

    def twin(self, algebra):
        """Return the algebra with plain names, and the dict from its names to those of the algebra."""
        names = algebra.members()
        plain = [f"m{number}" for number in range(len(names))]
        to_plain = dict(zip(names, plain))
        return made_algebra(plain, [
            (sign, arity, [to_plain[algebra.value(sign, row)] for row in tuples(names, arity)])
            for sign, arity in algebra.signature
        ]), dict(zip(plain, names))

    def test_algebras(self):
        for algebra in MADE:
            names = algebra.members()
            self.assertIsInstance(algebra, Algebra)
            self.assertEqual(len(algebra), len(names))
            self.assertTrue(all(name in algebra for name in names))
            other, _ = self.twin(algebra)
            self.assertIsNotNone(renaming(algebra, other))
            self.assertEqual(algebra == other, names == other.members())
            if len(names) <= 6 and all(name.isalnum() for name in names):
                self.assertEqual(algebra, Algebra(names, [
                    (sign, arity, [algebra.value(sign, row) for row in tuples(names, arity)]) for sign, arity in algebra.signature]))

    def test_parts_and_linkings_and_quotients(self):
        for algebra in MADE:
            other, back = self.twin(algebra)
            names, plain = algebra.members(), other.members()
            self.assertEqual(closed(algebra, names[:1]), [back[name] for name in closed(other, plain[:1])])
            if len(names) <= 8:
                self.assertEqual(generators(algebra), [back[name] for name in generators(other)])
                self.assertEqual(all_parts(algebra), [[back[name] for name in row] for row in all_parts(other)])
            self.assertEqual(
                linked(algebra, [(names[0], names[-1])]),
                [[back[name] for name in block] for block in linked(other, [(plain[0], plain[-1])])])
            steps = chain(algebra, [(names[0], names[-1])], names[0], names[-1])
            self.assertIsNone(judge_chain(algebra, [(names[0], names[-1])], names[0], names[-1], steps))
            if len(names) <= 5:
                for blocks, others in zip(all_linkings(algebra), all_linkings(other)):
                    self.assertEqual(blocks, [[back[name] for name in block] for block in others])
                    self.assertIsNone(check_linking(algebra, blocks))
                    self.assertEqual(quotient(algebra, blocks).members(), [back[block[0]] for block in others])
                    self.assertEqual(kernel(to_quotient(algebra, blocks)), blocks)
            term = term_to(algebra, names[:2], closed(algebra, names[:2])[-1])
            self.assertEqual(
                term_value(algebra, term, {f"x{number}": name for number, name in enumerate(names[:2])}),
                closed(algebra, names[:2])[-1])

    def test_equations_and_free_algebras_and_kin(self):
        for algebra in MADE:
            other, back = self.twin(algebra)
            signs = [("x", "y")] + [((sign, *"xyz"[:arity]), (sign, *"yxz"[:arity])) for sign, arity in algebra.signature]
            for left, right in signs:
                told, plain = fails(algebra, left, right), fails(other, left, right)
                self.assertEqual(told, plain and {name: back[member] for name, member in plain.items()})
            free, plain = Free(algebra, 1), Free(other, 1)
            self.assertEqual(len(free.algebra), len(plain.algebra))
            self.assertEqual(free.row("t0"), algebra.members())
            self.assertEqual(free.lift(algebra, algebra.members()[-1:])("t0"), algebra.members()[-1])
            try:
                self.assertIs(same_equations(algebra, other), True)
            except TooMany:
                self.assertGreater(len(algebra), 5)
                continue
            self.assertIsNone(judge_kin(algebra, other, kin_paper(algebra, other)))
            self.assertIs(kin(algebra, quotient(algebra, [algebra.members()])), True)

    def test_speech_and_bench(self):
        for algebra in MADE:
            names = algebra.members()
            self.assertEqual(made_by(algebra, 1, names), "x0")
            self.assertEqual(bar(algebra, 0, [names[1]]) is None, names[1] in closed(algebra, []))
            turned = names[1:] + names[:1]
            rows = bar(algebra, 1, turned)
            if rows is not None:
                self.assertIs(judge_bar(algebra, 1, turned, rows), True)
            self.assertEqual(wanted(algebra, 1, [(("new", ("new", "x")), "x")]), "x0")
            self.assertEqual(speaks(algebra, made_algebra(names, [("same", 1, names)])), ["x0"])
            bench = Bench(algebra, ["a", "b"])
            bench.tell("one", "a", "b")
            self.assertEqual((bench.ways(), bench.can_be("a")), (len(algebra), names))
            self.assertEqual(bench.why("a", names[0]), None)


class ListsAndTuples(Failing):
    """Lists that are passed may be tuples, and tuples that stand within them lists."""

    def same(self, call, *given):
        told = call(*[turned_into(thing, list) for thing in given])
        self.assertEqual(call(*[turned_into(thing, tuple) for thing in given]), told)
        return told

    def test_functions(self):
        odd = [["0", "2", "4"], ["1", "3", "5"]]
        self.same(lambda names, operations: data_of(Algebra(names, operations)), ["a", "b"], [["g", 1, ["b", "a"]], ["k", 0, ["a"]]])
        self.same(lambda names, operations: data_of(made_algebra(names, operations)), ["a"], [["g", 1, ["a"]]])
        self.same(SIX.value, "add", ["1", "2"])
        self.same(closed, SIX, ["2"])
        self.same(part, SIX, ["0", "3"])
        self.same(term_to, SIX, ["1"], "3")
        self.same(Map, SIX, TWO, ["0", "1"] * 3)
        self.same(check_linking, SIX, odd)
        self.same(linked, SIX, [["1", "3"]])
        steps = chain(SIX, [["1", "3"]], "0", "4")
        self.assertEqual(self.same(chain, SIX, [["1", "3"]], "0", "4"), steps)
        self.assertIsNone(judge_chain(SIX, (["1", "3"],), "0", "4", tuple(steps)))
        self.assertIsNone(judge_chain(SIX, [["1", "3"]], "0", "4", list(steps)))
        for call in (met, joined):
            self.same(call, SIX, odd, [["3", "0"], ["1", "4"], ["2", "5"]])
        self.same(quotient, SIX, odd)
        self.same(to_quotient, SIX, odd)
        self.same(Free(SIX, 1).lift, TWO, ["1"])
        self.same(made_by, SIX, 1, ["0", "2", "4", "0", "2", "4"])
        self.same(bar, SIX, 1, ["1"] * 6)
        self.same(judge_bar, SIX, 1, ["1"] * 6, [["0", "1"]])
        self.assertEqual(self.same(lambda names: Bench(SIX, names).names(), ["a", "b"]), ["a", "b"])
        pair = (("add", "x", ("new", "x")), ("zero",))
        for equations in ([pair], (pair,), [list(pair)], (list(pair),)):
            self.assertEqual(wanted(SIX, 1, equations), ("back", "x0"))

    def test_terms_and_papers_are_tuples(self):
        self.assertEqual(judge_kin(SIX, TWO, list(kin_paper(SIX, TWO))), "form")
        self.assertEqual(unknowns(replaced(read_term("add(x, y)"), {"x": ("back", "z")})), ["z", "y"])
        self.assertEqual(write_term(("add", "x", "y")), "add(x, y)")
        self.assertIsNone(check_term(SIX, ("add", "x", "y")))


class Kept(Failing):
    """Nothing that is passed is modified or kept."""

    def test_lists_that_change_later(self):
        names, values = ["a", "b"], ["b", "a"]
        operations = [("g", 1, values)]
        made = [Algebra(names, operations), made_algebra(names, operations)]
        before = [data_of(algebra) for algebra in made]
        images, places = ["a", "b"], ["x", "y"]
        m, bench = Map(made[0], made[0], images), Bench(made[0], places)
        lift = Free(made[0], 1).lift(made[0], images[:1])
        for given in (names, values, operations, images, places):
            given.clear()
        self.assertEqual([data_of(algebra) for algebra in made], before)
        self.assertEqual((m.images(), bench.names(), len(lift.images())), (["a", "b"], ["x", "y"], 2))

    def test_what_is_passed_stays(self):
        given = {
            closed: [["2", "4"]], part: [["4", "0", "2"]], term_to: [["1", "2"], "5"], check_linking: [[["5", "1", "3"], ["2", "0", "4"]]],
            linked: [[["3", "1"]]], chain: [[["1", "3"]], "0", "4"], met: [[["5", "1", "3"], ["2", "0", "4"]], [["0", "3"], ["5", "2"], ["4", "1"]]],
            joined: [[["5", "1", "3"], ["2", "0", "4"]], [["0", "3"], ["5", "2"], ["4", "1"]]], quotient: [[["5", "1", "3"], ["2", "0", "4"]]],
            to_quotient: [[["5", "1", "3"], ["2", "0", "4"]]], made_by: [1, ["0", "5", "4", "3", "2", "1"]], bar: [1, ["5"] * 6],
            judge_bar: [1, ["5"] * 6, [["3", "1"]]], wanted: [1, [[("new", "x"), ("add", "x", "x")]]],
            judge_chain: [[["1", "3"]], "0", "4", chain(SIX, [["1", "3"]], "0", "4")],
        }
        for call, told in given.items():
            before, algebra = copy.deepcopy(told), data_of(SIX)
            call(SIX, *told)
            self.assertEqual((told, data_of(SIX)), (before, algebra))

    def test_what_is_told_is_the_callers(self):
        for call in (
            SIX.members, Map.same(SIX).images, Free(SIX, 1).unknowns, lambda: Free(SIX, 1).row("t1"), lambda: closed(SIX, ["2"]),
            lambda: all_parts(SIX), lambda: generators(SIX), lambda: linked(SIX, [("1", "3")]), lambda: chain(SIX, [("1", "3")], "0", "4"),
            lambda: all_linkings(TurnAlgebra(4)), lambda: heart(TurnAlgebra(4)), lambda: kernel(Map.same(SIX)), lambda: unknowns("x"),
            lambda: met(SIX, [SIX.members()], [SIX.members()]), lambda: bar(SIX, 1, ["1"] * 6), lambda: speaks(TWO, TWO),
            lambda: all_maps(TWO, TWO), Bench(SIX, ["a"]).names, lambda: Bench(SIX, ["a"]).can_be("a"),
        ):
            told = call()
            kept = copy.copy(told)
            for inner in told:
                if isinstance(inner, list):
                    inner.append("more")
            told.clear()
            self.assertEqual(len(call()), len(kept))
            self.assertNotIn("more", [name for inner in call() if isinstance(inner, list) for name in inner])


class Sources(unittest.TestCase):
    def test_the_same_call_tells_the_same(self):
        # No clock and no random numbers: also what is free is told alike each time.
        for _ in range(2):
            self.assertEqual(kin_paper(SIX, TWO), kin_paper(TurnAlgebra(6), TurnAlgebra(2)))
            self.assertEqual(chain(SIX, [("1", "3")], "0", "4"), chain(TurnAlgebra(6), [("1", "3")], "0", "4"))


if __name__ == "__main__":
    unittest.main()
