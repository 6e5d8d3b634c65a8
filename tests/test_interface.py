"""The names of the interface exist, with their arguments, in the files that list them."""

import ast
import os
import unittest

from equalkin.algebras import TurnAlgebra
from equalkin.bench import Bench
from equalkin.free import Free
from equalkin.kin import kin_paper
from equalkin.maps import Map, all_maps, renaming
from equalkin.quotients import quotient, to_quotient

PACKAGE = os.path.join(os.path.dirname(os.path.dirname(os.path.abspath(__file__))), "equalkin")

PLAIN_ERRORS = (
    "EqualkinError", "BadAlgebra", "BadCount", "BadTerm", "TooMany", "NoMembers", "MixedSigns", "MixedMembers",
    "MixedAlgebras", "BadImages", "BadBlocks", "NothingDone", "NameMissing",
)

TOLD_ERRORS = {
    "BadText": ["place"], "NotClosed": ["sign", "arguments"], "NotKept": ["sign", "arguments"],
    "NotLinked": ["sign", "arguments", "place", "other"], "NotKin": ["left", "right"], "BadName": ["name"],
    "TwiceTold": ["name"], "Clash": ["labels"], "UnknownMember": ["name"], "UnknownSign": ["name"],
    "UnknownName": ["name"], "NoValue": ["name"], "NotTold": ["name"],
}

FUNCTIONS = {
    "algebras.py": {"made_algebra": ["members", "operations"]},
    "terms.py": {
        "check_term": ["algebra", "term"], "unknowns": ["term"], "size": ["term"], "depth": ["term"],
        "replaced": ["term", "images"], "term_value": ["algebra", "term", "values"],
    },
    "texts.py": {"write_term": ["term"], "read_term": ["text"]},
    "parts.py": {
        "closed": ["algebra", "members"], "part": ["algebra", "members"], "term_to": ["algebra", "members", "goal"],
        "all_parts": ["algebra"], "generators": ["algebra"],
    },
    "maps.py": {
        "product": ["first", "second"], "all_maps": ["source", "target"], "renaming": ["first", "second"],
    },
    "linkings.py": {
        "check_linking": ["algebra", "blocks"], "linked": ["algebra", "pairs"],
        "chain": ["algebra", "pairs", "first", "second"],
        "judge_chain": ["algebra", "pairs", "first", "second", "steps"],
    },
    "quotients.py": {
        "all_linkings": ["algebra"], "met": ["algebra", "first", "second"], "joined": ["algebra", "first", "second"],
        "quotient": ["algebra", "blocks"], "to_quotient": ["algebra", "blocks"], "kernel": ["m"], "heart": ["algebra"],
    },
    "equations.py": {"fails": ["algebra", "left", "right"]},
    "kin.py": {
        "kin": ["first", "second"], "kin_paper": ["first", "second"], "same_equations": ["first", "second"],
    },
    "judging.py": {"judge_kin": ["first", "second", "paper"]},
    "speech.py": {
        "made_by": ["algebra", "arity", "values"], "bar": ["algebra", "arity", "values"],
        "judge_bar": ["algebra", "arity", "values", "rows"], "speaks": ["first", "second"],
        "wanted": ["algebra", "arity", "equations"],
    },
}

CLASSES = {
    "algebras.py": {
        "Algebra": {
            "__init__": ["members", "operations"], "members": [], "value": ["sign", "arguments"],
            "__contains__": None, "__len__": [], "__eq__": None,
        },
        "TurnAlgebra": {"__init__": ["count"]},
        "ChainAlgebra": {"__init__": ["count"]},
        "PickAlgebra": {"__init__": ["count"]},
        "SetAlgebra": {"__init__": ["count"]},
    },
    "maps.py": {
        "Map": {
            "__init__": ["source", "target", "images"], "__call__": None, "images": [], "__rshift__": None,
            "__eq__": None, "same": None,
        },
    },
    "free.py": {
        "Free": {
            "__init__": ["algebra", "count"], "unknowns": [], "row": ["name"], "term": ["name"], "member": ["term"],
            "lift": ["target", "images"],
        },
    },
    "bench.py": {
        "Bench": {
            "__init__": ["algebra", "names"], "names": [], "told": [], "tell": ["label", "left", "right"],
            "drop": ["label"], "undo": [], "__contains__": None, "__len__": [], "ways": [], "can_be": ["name"],
            "follows": ["left", "right"], "why": ["name", "member"], "attempt": ["action"],
        },
    },
}


def tree_of(name):
    with open(os.path.join(PACKAGE, name), encoding="utf-8") as handle:
        return ast.parse(handle.read())


def functions_in(body):
    return {node.name: [arg.arg for arg in node.args.args] for node in body if isinstance(node, ast.FunctionDef)}


def classes_in(body):
    return {node.name: functions_in(node.body) for node in body if isinstance(node, ast.ClassDef)}


class Interface(unittest.TestCase):
    def test_errors(self):
        classes = classes_in(tree_of("errors.py").body)
        for name in PLAIN_ERRORS:
            self.assertEqual(classes[name].get("__init__", ["self"]), ["self"], name)
        for name, told in TOLD_ERRORS.items():
            self.assertEqual(classes[name]["__init__"], ["self", *told], name)
        self.assertEqual(set(classes), {*PLAIN_ERRORS, *TOLD_ERRORS})

    def test_functions(self):
        for file, functions in FUNCTIONS.items():
            found = functions_in(tree_of(file).body)
            for name, told in functions.items():
                self.assertEqual(found[name], told, name)

    def test_classes_have_their_methods_in_their_own_bodies(self):
        for file, classes in CLASSES.items():
            found = classes_in(tree_of(file).body)
            for name, methods in classes.items():
                for method, told in methods.items():
                    self.assertIn(method, found[name], name)
                    if told is not None:
                        self.assertEqual(found[name][method], ["self", *told], (name, method))

    def test_attributes_are_set_when_an_object_is_created(self):
        two = TurnAlgebra(2)
        free = Free(two, 1)
        for m in (
            Map.same(two), Map(two, two, ["0", "0"]), Map.same(two) >> Map.same(two), all_maps(two, two)[0], renaming(two, two),
            to_quotient(two, [["0", "1"]]), free.lift(two, ["1"]),
        ):
            self.assertLessEqual({"source", "target"}, set(vars(m)))
        self.assertLessEqual({"base", "count", "algebra"}, set(vars(free)))
        self.assertIn("algebra", vars(Bench(two, [])))
        for algebra in (two, free.algebra, quotient(two, [["0", "1"]])):
            self.assertIn("signature", vars(algebra))
        self.assertEqual(kin_paper(two, two)[0], "kin")


if __name__ == "__main__":
    unittest.main()
