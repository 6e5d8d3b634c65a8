"""The names of the interface exist, with their arguments, in the files that list them."""

import ast
import os
import unittest

PACKAGE = os.path.join(os.path.dirname(os.path.dirname(os.path.abspath(__file__))), "equalkin")

PLAIN_ERRORS = (
    "EqualkinError", "BadAlgebra", "BadCount", "BadTerm", "TooMany", "NoMembers", "MixedSigns", "MixedMembers",
    "MixedAlgebras", "BadImages", "BadBlocks", "NothingDone", "NameMissing",
)

TOLD_ERRORS = {
    "BadText": ["place"], "NotClosed": ["sign", "arguments"], "NotKept": ["sign", "arguments"],
    "NotLinked": ["sign", "arguments", "place", "other"], "NotKin": ["left", "right"], "BadName": ["name"],
    "TwiceTold": ["name"], "Clash": ["labels"], "UnknownMember": ["name"], "UnknownSign": ["name"],
    "UnknownName": ["name"], "NoValue": ["name"], "NotTold": ["name"],
}

FUNCTIONS = {
    "algebras.py": {"made_algebra": ["members", "operations"]},
    "terms.py": {
        "check_term": ["algebra", "term"], "unknowns": ["term"], "size": ["term"], "depth": ["term"],
        "replaced": ["term", "images"], "term_value": ["algebra", "term", "values"],
    },
    "texts.py": {"write_term": ["term"], "read_term": ["text"]},
    "parts.py": {
        "closed": ["algebra", "members"], "part": ["algebra", "members"], "term_to": ["algebra", "members", "goal"],
        "all_parts": ["algebra"], "generators": ["algebra"],
    },
    "maps.py": {
        "product": ["first", "second"], "all_maps": ["source", "target"], "renaming": ["first", "second"],
    },
    "linkings.py": {
        "check_linking": ["algebra", "blocks"], "linked": ["algebra", "pairs"],
        "chain": ["algebra", "pairs", "first", "second"],
        "judge_chain": ["algebra", "pairs", "first", "second", "steps"],
    },
}

CLASSES = {
    "algebras.py": {
        "Algebra": {
            "__init__": ["members", "operations"], "members": [], "value": ["sign", "arguments"],
            "__contains__": None, "__len__": [], "__eq__": None,
        },
        "TurnAlgebra": {"__init__": ["count"]},
        "ChainAlgebra": {"__init__": ["count"]},
        "PickAlgebra": {"__init__": ["count"]},
        "SetAlgebra": {"__init__": ["count"]},
    },
    "maps.py": {
        "Map": {
            "__init__": ["source", "target", "images"], "__call__": None, "images": [], "__rshift__": None,
            "__eq__": None, "same": None,
        },
    },
}


def tree_of(name):
    with open(os.path.join(PACKAGE, name), encoding="utf-8") as handle:
        return ast.parse(handle.read())


def functions_in(body):
    return {node.name: [arg.arg for arg in node.args.args] for node in body if isinstance(node, ast.FunctionDef)}


def classes_in(body):
    return {node.name: functions_in(node.body) for node in body if isinstance(node, ast.ClassDef)}


class Interface(unittest.TestCase):
    def test_errors(self):
        classes = classes_in(tree_of("errors.py").body)
        for name in PLAIN_ERRORS:
            self.assertEqual(classes[name].get("__init__", ["self"]), ["self"], name)
        for name, told in TOLD_ERRORS.items():
            self.assertEqual(classes[name]["__init__"], ["self", *told], name)
        self.assertEqual(set(classes), {*PLAIN_ERRORS, *TOLD_ERRORS})

    def test_functions(self):
        for file, functions in FUNCTIONS.items():
            found = functions_in(tree_of(file).body)
            for name, told in functions.items():
                self.assertEqual(found[name], told, name)

    def test_classes_have_their_methods_in_their_own_bodies(self):
        for file, classes in CLASSES.items():
            found = classes_in(tree_of(file).body)
            for name, methods in classes.items():
                for method, told in methods.items():
                    self.assertIn(method, found[name], name)
                    if told is not None:
                        self.assertEqual(found[name][method], ["self", *told], (name, method))


if __name__ == "__main__":
    unittest.main()
