"""The errors: what lies under what, and what each one keeps (the interface, equalkin/errors.py)."""

import unittest

from equalkin import errors

UNDER_EQUALKIN = {
    "BadAlgebra": {}, "BadCount": {}, "BadTerm": {}, "BadText": {"place": 7}, "TooMany": {}, "NoMembers": {},
    "NotClosed": {"sign": "add", "arguments": ("0", "1")}, "MixedSigns": {}, "MixedMembers": {}, "MixedAlgebras": {},
    "BadImages": {}, "NotKept": {"sign": "back", "arguments": ("1",)}, "BadBlocks": {},
    "NotLinked": {"sign": "add", "arguments": ("0", "1"), "place": 1, "other": "2"},
    "NotKin": {"left": ("add", "x0", "x1"), "right": "x0"}, "BadName": {"name": "No word"},
    "TwiceTold": {"name": "x"}, "Clash": {"labels": ["one", "two"]}, "NothingDone": {},
}

UNDER_MISSING = {
    "UnknownMember": {"name": "7"}, "UnknownSign": {"name": "times"}, "UnknownName": {"name": "z"},
    "NoValue": {"name": "x"}, "NotTold": {"name": "label"},
}

ALL = {**UNDER_EQUALKIN, **UNDER_MISSING}


def made(name):
    return getattr(errors, name)(*ALL[name].values())


class Classes(unittest.TestCase):
    def test_the_two_classes_above(self):
        self.assertEqual(errors.EqualkinError.__bases__, (ValueError,))
        self.assertEqual(errors.NameMissing.__bases__, (LookupError,))

    def test_each_class_is_right_under_its_own(self):
        for name in UNDER_EQUALKIN:
            self.assertEqual(getattr(errors, name).__bases__, (errors.EqualkinError,), name)
        for name in UNDER_MISSING:
            self.assertEqual(getattr(errors, name).__bases__, (errors.NameMissing,), name)

    def test_no_class_is_under_another_one(self):
        for name in ALL:
            error = made(name)
            for other in ALL:
                if other != name:
                    self.assertNotIsInstance(error, getattr(errors, other))
            self.assertNotIsInstance(error, (KeyError, IndexError))
            self.assertEqual(isinstance(error, errors.EqualkinError), name in UNDER_EQUALKIN)
            self.assertEqual(isinstance(error, errors.NameMissing), name in UNDER_MISSING)
            self.assertEqual(isinstance(error, ValueError), name in UNDER_EQUALKIN)
            self.assertEqual(isinstance(error, LookupError), name in UNDER_MISSING)

    def test_no_other_errors(self):
        found = [name for name, thing in vars(errors).items() if isinstance(thing, type)]
        self.assertEqual(sorted(found), sorted([*ALL, "EqualkinError", "NameMissing"]))


class Attributes(unittest.TestCase):
    def test_each_argument_is_an_attribute(self):
        for name, told in ALL.items():
            self.assertEqual(vars(made(name)), told, name)

    def test_each_can_be_raised_and_shown(self):
        for name, told in ALL.items():
            with self.assertRaises(getattr(errors, name)) as caught:
                raise made(name)
            self.assertIsInstance(str(caught.exception), str)
            for attribute, worth in told.items():
                self.assertEqual(getattr(caught.exception, attribute), worth)

    def test_lists_of_arguments_become_tuples(self):
        for name, more in (("NotClosed", ()), ("NotKept", ()), ("NotLinked", (0, "1"))):
            for arguments in ([], ["0"], ["0", "1"], (), ("0",), ("0", "1")):
                error = getattr(errors, name)("add", arguments, *more)
                self.assertEqual(error.arguments, tuple(arguments))
                self.assertIsInstance(error.arguments, tuple)

    def test_lists_of_arguments_are_not_kept(self):
        for name, more in (("NotClosed", ()), ("NotKept", ()), ("NotLinked", (0, "1"))):
            arguments = ["0", "1"]
            error = getattr(errors, name)("add", arguments, *more)
            arguments.append("2")
            self.assertEqual(error.arguments, ("0", "1"))
            self.assertFalse([thing for thing in error.args if thing is arguments])

    def test_clash_has_a_list_of_its_own(self):
        labels = ["one", "two"]
        error = errors.Clash(labels)
        labels.append("three")
        self.assertEqual(error.labels, ["one", "two"])
        error.labels.clear()
        self.assertEqual(labels, ["one", "two", "three"])
        self.assertFalse([thing for thing in error.args if thing is labels])

    def test_clash_takes_a_tuple(self):
        error = errors.Clash(("one", "two"))
        self.assertEqual(error.labels, ["one", "two"])
        self.assertIsInstance(error.labels, list)

    def test_names_of_any_form(self):
        for name in ("", " ", "{x}", "a/b", "\n", None, 5, ["0"], ("0",)):
            self.assertEqual(errors.UnknownMember(name).name, name)
            self.assertEqual(errors.BadName(name).name, name)


if __name__ == "__main__":
    unittest.main()
