"""The bench: telling, asking, dropping and taking back (points 22 and 23)."""

import copy
import itertools
import unittest

from equalkin.algebras import ChainAlgebra, PickAlgebra, SetAlgebra, TurnAlgebra, made_algebra
from equalkin.bench import Bench
from equalkin.errors import (
    BadName, BadTerm, Clash, NothingDone, NotTold, TooMany, TwiceTold, UnknownMember, UnknownName,
)
from tests.samples import SIGNATURES, Failing, data_of, scattered, value_of

SIX, FOUR, TWO, SET = TurnAlgebra(6), TurnAlgebra(4), TurnAlgebra(2), SetAlgebra(1)


class Model:
    """The bench as the document tells it: all ways are walked over for each question."""

    def __init__(self, algebra, names):
        self.names, self.told, self.past = list(names), [], []
        self.every = [dict(zip(names, row)) for row in itertools.product(algebra.members(), repeat=len(names))]
        self.algebra = algebra

    def meets(self, values, left, right):
        return value_of(self.algebra, left, values) == value_of(self.algebra, right, values)

    def ways(self, told):
        return [values for values in self.every if all(self.meets(values, left, right) for _, left, right in told)]

    def change(self, told):
        self.past.append(self.told)
        self.told = told


class Benches(Failing):
    def is_clash(self, model, told, labels, wanted=lambda values: True):
        """See that no way that is wanted meets the equations with these labels, and that none can be left out."""
        self.assertIs(type(labels), list)
        self.assertEqual(labels, [label for label, _, _ in told if label in labels])
        rows = [row for row in told if row[0] in labels]
        self.assertEqual([values for values in model.ways(rows) if wanted(values)], [])
        for row in rows:
            fewer = [other for other in rows if other != row]
            self.assertTrue([values for values in model.ways(fewer) if wanted(values)])

    def agrees(self, bench, model):
        """See that all questions are answered as a walk over all members answers them."""
        ways = model.ways(model.told)
        self.assertEqual((bench.told(), len(bench), bench.ways()), (model.told, len(model.told), len(ways)))
        self.assertEqual(bench.names(), model.names)
        for label, _, _ in model.told:
            self.assertIn(label, bench)
        for name in model.names:
            seen = {values[name] for values in ways}
            self.assertEqual(bench.can_be(name), [member for member in model.algebra.members() if member in seen])
            for member in model.algebra.members():
                labels = bench.why(name, member)
                if member in seen:
                    self.assertIsNone(labels)
                else:
                    self.is_clash(model, model.told, labels, lambda values: values[name] == member)

    def tells(self, bench, model, label, left, right):
        told = [*model.told, (label, left, right)]
        if model.ways(told):
            self.assertIsNone(bench.tell(label, left, right))
            model.change(told)
            return True
        caught = self.raises(Clash, {}, bench.tell, label, left, right)
        self.assertIn(label, caught.labels)
        self.is_clash(model, told, caught.labels)
        return False


class Making(Benches):
    def test_told_examples(self):
        bench = Bench(SIX, ["a", "b"])
        self.assertEqual((bench.algebra, bench.names(), bench.told(), len(bench)), (SIX, ["a", "b"], [], 0))
        self.assertEqual((bench.ways(), bench.can_be("b")), (36, SIX.members()))
        self.assertIsNone(bench.tell("sum", ("add", "a", "b"), ("zero",)))
        self.assertIsNone(bench.tell("twice", ("add", "a", "a"), ("zero",)))
        self.assertEqual((bench.ways(), bench.can_be("a"), bench.can_be("b")), (2, ["0", "3"], ["0", "3"]))
        self.assertIs(bench.follows("a", "b"), True)
        self.assertIs(bench.follows("a", ("zero",)), False)
        self.assertEqual(bench.why("b", "1"), ["sum", "twice"])
        self.assertIsNone(bench.why("b", "3"))
        self.assertEqual(bench.told(), [("sum", ("add", "a", "b"), ("zero",)), ("twice", ("add", "a", "a"), ("zero",))])
        self.assertIn("sum", bench)
        self.assertNotIn("a", bench)

    def test_bad_names_and_names_told_twice(self):
        for name in ("", "A", "1a", "a b", "a_", "abcdefghijklm", "a-b"):
            self.raises(BadName, {"name": name}, Bench, SIX, [name])
            self.raises(BadName, {"name": name}, Bench, SIX, ["a", "b", name, "a"])
        self.raises(TwiceTold, {"name": "b"}, Bench, SIX, ["a", "b", "b", "A", "a"])
        self.raises(TwiceTold, {"name": "a"}, Bench, SIX, ("a", "b", "a", "b", "A"))
        self.raises(BadName, {"name": "B"}, Bench, SIX, ["a", "B", "a"])
        self.assertEqual(Bench(SIX, ["abcdefghijkl", "a1"]).names(), ["abcdefghijkl", "a1"])

    def test_too_many(self):
        names = [f"n{number}" for number in range(20)]
        self.raises(TooMany, {}, Bench, SIX, names[:5])
        self.raises(TooMany, {}, Bench, TWO, names[:13])
        self.raises(TooMany, {}, Bench, FOUR, names)
        self.raises(TooMany, {}, Bench, made_algebra([str(number) for number in range(65)], []), names[:2])
        self.raises(TwiceTold, {"name": "n0"}, Bench, FOUR, names + ["n0"])
        self.raises(BadName, {"name": "X"}, Bench, FOUR, names + ["X"])
        self.assertEqual(Bench(TWO, names[:12]).ways(), 4096)
        self.assertEqual(Bench(FOUR, names[:6]).ways(), 4096)
        self.assertEqual(Bench(made_algebra([str(number) for number in range(64)], []), names[:2]).ways(), 4096)
        self.assertEqual(Bench(SIX, names[:4]).ways(), 1296)
        wide = [made_algebra([str(number) for number in range(count)], []) for count in (4096, 4097)]
        self.assertEqual(Bench(wide[0], names[:1]).ways(), 4096)
        self.raises(TooMany, {}, Bench, wide[1], names[:1])
        self.assertEqual(Bench(TurnAlgebra(1), names).ways(), 1)

    def test_no_names(self):
        bench = Bench(SET, [])
        self.assertEqual((bench.names(), bench.ways(), len(bench)), ([], 1, 0))
        bench.tell("right", ("not", ("none",)), ("all",))
        self.assertEqual(bench.ways(), 1)
        self.assertIs(bench.follows(("none",), ("none",)), True)
        self.assertIs(bench.follows(("none",), ("all",)), False)
        self.raises(Clash, {"labels": ["wrong"]}, bench.tell, "wrong", ("none",), ("all",))
        self.raises(UnknownName, {"name": "a"}, bench.tell, "other", "a", ("all",))
        self.raises(UnknownName, {"name": "a"}, bench.can_be, "a")
        self.assertEqual(Bench(PickAlgebra(3), ()).ways(), 1)

    def test_at_4096_ways(self):
        names = [f"n{number}" for number in range(12)]
        bench = Bench(TWO, names)
        for number, (one, two) in enumerate(zip(names, names[1:])):
            bench.tell(f"e{number}", one, two)
        self.assertEqual((bench.ways(), len(bench)), (2, 11))
        self.assertIs(bench.follows("n0", "n11"), True)
        bench.tell("last", "n5", ("zero",))
        self.assertEqual(bench.can_be("n11"), ["0"])
        self.assertEqual(bench.why("n11", "1"), ["e5", "e6", "e7", "e8", "e9", "e10", "last"])
        self.assertEqual(bench.why("n0", "1"), ["e0", "e1", "e2", "e3", "e4", "last"])

    def test_of_the_callers(self):
        names, before = ["a", "b"], data_of(SIX)
        bench = Bench(SIX, names)
        names.clear()
        bench.tell("one", "a", "b")
        for told in (bench.names(), bench.told(), bench.can_be("a")):
            told.clear()
        self.assertEqual((bench.names(), len(bench.told()), len(bench.can_be("a"))), (["a", "b"], 1, 6))
        bench.tell("two", "a", ("zero",))
        bench.why("b", "1").clear()
        self.assertEqual(bench.why("b", "1"), ["one", "two"])
        self.assertEqual(data_of(SIX), before)


class Telling(Benches):
    def setUp(self):
        self.bench = Bench(SIX, ["a", "b", "c"])
        self.bench.tell("one", ("add", "a", "b"), "c")

    def refused(self, error, told, call, *given):
        before = self.bench.told(), self.bench.ways(), len(self.bench)
        caught = self.raises(error, told, call, *given)
        self.assertEqual((self.bench.told(), self.bench.ways(), len(self.bench)), before)
        return caught

    def test_errors_in_order(self):
        tell = self.bench.tell
        for label in ("", "A", "1", "one two", "abcdefghijklm"):
            self.refused(BadName, {"name": label}, tell, label, None, None)
        self.refused(TwiceTold, {"name": "one"}, tell, "one", None, None)
        for thing in (None, 5, "", "X", (), [], ["add", "a", "b"], ("add", "a"), ("times", "a", "b"), ("zero", "a"), ("add", "z", 5)):
            self.refused(BadTerm, {}, tell, "two", thing, "z")
            self.refused(BadTerm, {}, tell, "two", thing, None)
            self.refused(BadTerm, {}, tell, "two", "z", thing)
        self.refused(UnknownName, {"name": "y"}, tell, "two", ("add", ("add", "a", "y"), "z"), "x")
        self.refused(UnknownName, {"name": "z"}, tell, "two", ("add", "z", "y"), "x")
        self.refused(UnknownName, {"name": "x"}, tell, "two", ("add", "a", "b"), ("add", "c", "x"))
        # Ahead of a clash that would show in any case.
        self.refused(UnknownName, {"name": "x"}, tell, "two", ("add", "x", ("back", "x")), ("add", "a", "x"))
        self.assertEqual(len(self.bench), 1)

    def test_labels_may_be_names_and_signs(self):
        self.bench.tell("a", "a", "a")
        self.bench.tell("add", "b", "b")
        self.assertEqual([label for label, _, _ in self.bench.told()], ["one", "a", "add"])

    def test_clash_of_which_several_sets_could_be_told(self):
        names = ["a", "b", "c"]
        bench, model = Bench(SET, names), Model(SET, names)
        for label, left, right in (("e1", "a", "b"), ("e2", "b", "c"), ("e3", "a", "c"), ("e4", "a", ("all",))):
            self.assertTrue(self.tells(bench, model, label, left, right))
        for left, right in (("c", ("none",)), ("c", ("not", "a")), (("not", "b"), ("and", "a", "c")), (("none",), ("all",))):
            self.assertFalse(self.tells(bench, model, "e5", left, right))
        self.agrees(bench, model)

    def test_clash_tells_no_more_than_needed(self):
        bench = Bench(SET, ["a", "b", "c"])
        bench.tell("loose", "c", "c")
        bench.tell("up", "a", ("all",))
        bench.tell("else", ("and", "b", "c"), ("and", "c", "b"))
        bench.tell("pair", "a", "b")
        self.raises(Clash, {"labels": ["up", "pair", "down"]}, bench.tell, "down", "b", ("none",))
        self.raises(Clash, {"labels": ["up", "down"]}, bench.tell, "down", "a", ("none",))
        self.raises(Clash, {"labels": ["down"]}, bench.tell, "down", "c", ("not", "c"))
        self.assertEqual((len(bench), bench.ways()), (4, 2))
        # What was refused cannot be taken back: the last tell is.
        bench.undo()
        self.assertEqual([label for label, _, _ in bench.told()], ["loose", "up", "else"])

    def test_clash_of_the_callers(self):
        bench = Bench(SET, ["a"])
        bench.tell("up", "a", ("all",))
        caught = self.raises(Clash, {"labels": ["up", "down"]}, bench.tell, "down", "a", ("none",))
        caught.labels.clear()
        self.raises(Clash, {"labels": ["up", "down"]}, bench.tell, "down", "a", ("none",))
        self.assertEqual(len(bench), 1)

    def test_drop(self):
        bench = self.bench
        bench.tell("two", "a", "b")
        self.assertIsNone(bench.drop("one"))
        self.assertEqual((bench.told(), "one" in bench, "two" in bench), ([("two", "a", "b")], False, True))
        self.refused(NotTold, {"name": "one"}, bench.drop, "one")
        self.refused(NotTold, {"name": ""}, bench.drop, "")
        self.refused(NotTold, {"name": "a"}, bench.drop, "a")
        # It may be told again, and then stands last.
        bench.tell("one", "c", ("zero",))
        self.assertEqual([label for label, _, _ in bench.told()], ["two", "one"])
        bench.drop("two")
        bench.drop("one")
        self.assertEqual((bench.ways(), len(bench)), (216, 0))

    def test_errors_of_the_questions(self):
        bench = self.bench
        self.refused(UnknownName, {"name": "z"}, bench.can_be, "z")
        self.refused(UnknownName, {"name": "one"}, bench.can_be, "one")
        self.refused(UnknownName, {"name": "z"}, bench.why, "z", "9")
        self.refused(UnknownMember, {"name": "9"}, bench.why, "a", "9")
        self.refused(UnknownMember, {"name": "a"}, bench.why, "a", "a")
        for thing in (None, 5, "", (), ["zero"], ("add", "a"), ("times", "a", "b")):
            self.refused(BadTerm, {}, bench.follows, thing, "z")
            self.refused(BadTerm, {}, bench.follows, "z", thing)
        self.refused(UnknownName, {"name": "y"}, bench.follows, ("add", "a", "y"), "z")
        self.refused(UnknownName, {"name": "z"}, bench.follows, "a", ("add", "z", "y"))

    def test_large_terms(self):
        term = "a"
        for _ in range(9):
            term = ("add", term, term)
        deep = "b"
        for _ in range(40):
            deep = ("back", deep)
        self.bench.tell("large", term, deep)
        self.assertEqual(self.bench.why("b", "1"), ["large"])
        self.assertEqual(self.bench.told()[1], ("large", term, deep))


class Undoing(Benches):
    def test_nothing_done(self):
        bench = Bench(SIX, ["a"])
        self.raises(NothingDone, {}, bench.undo)
        bench.tell("one", "a", "a")
        self.assertIsNone(bench.undo())
        self.raises(NothingDone, {}, bench.undo)
        self.raises(NotTold, {}, bench.drop, "one")
        self.raises(NothingDone, {}, bench.undo)
        self.assertEqual((len(bench), bench.ways()), (0, 6))

    def test_the_order_as_it_was(self):
        bench = Bench(SIX, ["a", "b"])
        for label in ("one", "two", "three"):
            bench.tell(label, "a", "b")
        bench.drop("two")
        bench.tell("two", "b", "a")
        orders = []
        while True:
            orders.append([label for label, _, _ in bench.told()])
            try:
                bench.undo()
            except NothingDone:
                break
        self.assertEqual(orders, [
            ["one", "three", "two"], ["one", "three"], ["one", "two", "three"], ["one", "two"], ["one"], [],
        ])

    def test_undo_is_no_change_of_its_own(self):
        bench = Bench(SIX, ["a"])
        bench.tell("one", "a", ("zero",))
        bench.drop("one")
        bench.undo()
        self.assertIn("one", bench)
        bench.undo()
        self.assertNotIn("one", bench)
        self.raises(NothingDone, {}, bench.undo)

    def test_walk_over_all_members_behind_all_changes(self):
        seen = {"told": 0, "clash": 0, "drop": 0, "undo": 0}
        for number, signature in enumerate(SIGNATURES * 3):
            algebra = scattered(number, 2 + number % 3, signature)
            names = ["a", "b", "c"]
            bench, model = Bench(algebra, names), Model(algebra, names)
            terms = names + [
                (sign, *row) for sign, arity in signature for row in itertools.product(names, repeat=arity)]
            terms += [(sign, *terms[-arity:]) for sign, arity in signature if arity]
            state = number + 5
            for step in range(14):
                state = (state * 6364136223846793005 + 1442695040888963407) % 2 ** 64
                kind, left, right = (state >> 40) % 7, terms[(state >> 20) % len(terms)], terms[(state >> 30) % len(terms)]
                if kind == 0 and model.told:
                    label = model.told[state % len(model.told)][0]
                    bench.drop(label)
                    model.change([row for row in model.told if row[0] != label])
                    seen["drop"] += 1
                elif kind == 1 and model.past:
                    bench.undo()
                    model.told = model.past.pop()
                    seen["undo"] += 1
                else:
                    seen["told" if self.tells(bench, model, f"l{step}", left, right) else "clash"] += 1
                self.agrees(bench, model)
                ways = model.ways(model.told)
                for one, two in itertools.product(terms[:4], terms[-3:]):
                    self.assertIs(bench.follows(one, two), all(model.meets(values, one, two) for values in ways))
            while model.past:
                bench.undo()
                model.told = model.past.pop()
                self.agrees(bench, model)
            self.raises(NothingDone, {}, bench.undo)
            self.assertEqual((len(bench), bench.ways()), (0, len(algebra) ** 3))
        self.assertGreater(min(seen.values()), 9, seen)


class Odd(Exception):
    """An error of the caller's own."""


class Attempts(Benches):
    def setUp(self):
        self.bench = Bench(SET, ["a", "b"])
        self.bench.tell("one", "a", "b")
        self.bench.tell("two", ("or", "a", "b"), "b")
        self.bench.drop("two")

    def labels(self):
        return [label for label, _, _ in self.bench.told()]

    def is_as_it_was(self):
        """See that the bench and what can be taken back are as setUp left them."""
        self.assertEqual(self.labels(), ["one"])
        orders = []
        while True:
            try:
                self.bench.undo()
            except NothingDone:
                break
            orders.append(self.labels())
        self.assertEqual(orders, [["one", "two"], ["one"], []])
        self.assertEqual(self.bench.ways(), 4)

    def test_answers(self):
        for answer in (None, 0, "", [], "told", False, (1, 2), {}):
            self.assertIs(self.bench.attempt(lambda bench: answer), answer)
        self.assertIs(self.bench.attempt(lambda bench: bench), self.bench)
        self.assertEqual(self.bench.attempt(len), 1)
        self.is_as_it_was()

    def test_what_was_done_stays(self):
        def action(bench):
            bench.tell("three", "a", ("all",))
            bench.drop("one")
            return bench.ways()

        self.assertEqual(self.bench.attempt(action), 2)
        self.assertEqual(self.labels(), ["three"])
        # Change by change.
        self.bench.undo()
        self.assertEqual(self.labels(), ["one", "three"])
        self.bench.undo()
        self.is_as_it_was()

    def test_an_error_of_the_callers_own(self):
        error = Odd("odd")

        def action(bench):
            bench.tell("three", "a", ("all",))
            bench.drop("one")
            bench.undo()
            bench.undo()
            bench.undo()
            bench.undo()
            bench.tell("four", "b", ("none",))
            raise error

        with self.assertRaises(Odd) as caught:
            self.bench.attempt(action)
        self.assertIs(caught.exception, error)
        self.is_as_it_was()

    def test_errors_of_every_kind_go_on(self):
        for error in (ValueError, KeyError, LookupError, TypeError, KeyboardInterrupt, StopIteration, GeneratorExit, AttributeError):
            def action(bench):
                bench.tell("three", "a", ("all",))
                raise error()

            with self.assertRaises(error) as caught:
                self.bench.attempt(action)
            self.assertIs(type(caught.exception), error)
            self.assertEqual(self.labels(), ["one"])
        self.is_as_it_was()

    def test_an_error_of_the_package(self):
        def action(bench):
            bench.tell("three", "a", ("all",))
            bench.tell("four", "b", ("none",))

        self.raises(Clash, {"labels": ["one", "three", "four"]}, self.bench.attempt, action)
        self.is_as_it_was()

    def test_nothing_done_as_the_error(self):
        def action(bench):
            while True:
                bench.undo()

        self.raises(NothingDone, {}, self.bench.attempt, action)
        self.is_as_it_was()

    def test_what_was_taken_back_within_stays_taken_back(self):
        self.bench.attempt(lambda bench: bench.undo())
        self.assertEqual(self.labels(), ["one", "two"])
        self.bench.undo()
        self.assertEqual(self.labels(), ["one"])

    def test_an_error_that_the_action_catches(self):
        def action(bench):
            bench.tell("three", "a", ("all",))
            try:
                bench.tell("four", "b", ("none",))
            except Clash as clash:
                bench.drop("three")
                return clash.labels

        self.assertEqual(self.bench.attempt(action), ["one", "three", "four"])
        self.assertEqual(self.labels(), ["one"])
        self.bench.undo()
        self.assertEqual(self.labels(), ["one", "three"])
        self.bench.undo()
        self.is_as_it_was()

    def test_nested_attempts(self):
        def inner(bench):
            bench.tell("four", ("and", "a", "b"), "a")
            bench.drop("one")
            raise Odd()

        def outer(bench):
            bench.tell("three", "a", ("all",))
            try:
                bench.attempt(inner)
            except Odd:
                bench.tell("five", "b", "b")
            return self.labels()

        self.assertEqual(self.bench.attempt(outer), ["one", "three", "five"])
        self.bench.undo()
        self.assertEqual(self.labels(), ["one", "three"])
        self.bench.undo()
        self.is_as_it_was()

    def test_nested_attempts_of_which_the_outer_one_fails(self):
        def outer(bench):
            bench.attempt(lambda same: same.tell("three", "a", ("all",)))
            self.assertEqual(self.labels(), ["one", "three"])
            bench.attempt(lambda same: same.attempt(lambda again: again.drop("one")))
            raise Odd()

        self.assertRaises(Odd, self.bench.attempt, outer)
        self.is_as_it_was()

    def test_an_inner_error_that_goes_on(self):
        def inner(bench):
            bench.tell("four", "b", "b")
            bench.undo()
            bench.undo()
            raise Odd()

        def outer(bench):
            bench.tell("three", "a", ("all",))
            bench.attempt(inner)

        self.assertRaises(Odd, self.bench.attempt, outer)
        self.is_as_it_was()

    def test_questions_behind_a_failed_attempt(self):
        def action(bench):
            bench.tell("three", "a", ("all",))
            self.assertEqual((bench.ways(), bench.can_be("b"), bench.why("b", "0")), (1, ["1"], ["one", "three"]))
            raise Odd()

        self.assertRaises(Odd, self.bench.attempt, action)
        self.assertEqual((self.bench.ways(), self.bench.can_be("b"), self.bench.why("b", "0")), (2, ["0", "1"], None))
        self.bench.tell("three", "a", ("none",))
        self.assertEqual(self.bench.can_be("b"), ["0"])

    def test_told_lists_of_before_stay(self):
        before = self.bench.told()
        kept = copy.deepcopy(before)
        self.bench.tell("three", "a", ("all",))
        self.bench.drop("one")
        self.assertEqual(before, kept)


class Two(Benches):
    def test_two_benches_do_not_mix(self):
        first, second = Bench(ChainAlgebra(3), ["a"]), Bench(ChainAlgebra(3), ["a"])
        first.tell("one", "a", ("low", "a", "a"))
        self.assertEqual((len(first), len(second)), (1, 0))
        self.raises(NothingDone, {}, second.undo)
        first.attempt(lambda bench: second.tell("two", "a", "a"))
        self.assertEqual((len(first), len(second)), (1, 1))


if __name__ == "__main__":
    unittest.main()
