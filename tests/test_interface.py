"""The interface: each name stands in its file, with its arguments; and the limits of the files."""

import ast
import inspect
import unittest
from importlib import import_module
from pathlib import Path

from crewlists.evidence import Evidence
from crewlists.family import Family
from crewlists.jobs import Jobs
from crewlists.rolls import Roll

PACKAGE = Path(__file__).parent.parent / "crewlists"

FUNCTIONS = {
    "groups": [
        "is_integer(thing)", "is_group(size, thing)", "groups(size)", "parts(group)", "together(one, other)",
        "apart(one, other)",
    ],
    "dealing": [
        "short_part(jobs, group)", "strength(jobs, group)", "deal(jobs, group)", "deals(jobs, group)",
        "is_deal(jobs, group, thing)", "placeable(jobs)",
    ],
    "moving": ["admit(jobs, group, dealt, person)", "both(jobs, group, wanted)"],
    "structure": [
        "hangs(family, group, person)", "closure(family, group)", "round_part(family, group)",
        "is_closed(family, group)", "is_round(family, group)", "is_knot(family, group)",
        "clash_within(family, group, person)", "clashes(family)", "knots(family)", "idle(family)", "needed(family)",
        "blocks(family)",
    ],
    "weights": ["weights(family)", "above(family, group)", "room(family, group)", "round_bound(family, rounds)"],
    "reasons": ["lists_of(family)", "is_answer(family, thing)", "is_explained(family)"],
    "greatest": ["greatest(jobs, *, many=None)", "places(jobs)", "lost(one, other)", "same(one, other)"],
    "needs": ["enough(jobs, indexes)", "least_enough(jobs)", "spare(jobs)", "alone(family, person)"],
    "changes": [
        "may_put(jobs, at, person)", "may_strike(jobs, at, person)", "least(jobs)", "is_least(jobs)",
        "least_sizes(family)",
    ],
    "lists": [
        "explains(family, jobs)", "all_tight(family, *, most=60)", "all_least(family, *, most=60)",
        "steps(one, other)",
    ],
    "sharing": ["fewest_jobs(family, person)", "share(family, one, other)"],
    "made": ["parted(one, other, group)", "common(one, other)", "helper(family, group)"],
    "likeness": ["renaming(one, other)", "symmetries(family)"],
}

METHODS = {
    Jobs: [
        "__init__(self, size, jobs)", "open_to(self, group)", "outside(self, at)", "put(self, at, person)",
        "struck(self, at, person)", "picked(self, indexes)", "renamed(self, order)", "turned(self)",
        "hired(self, indexes)", "everyone(size, many)",
    ],
    Family: [
        "__init__(self, size, crews)", "strength(self, group)", "renamed(self, order)", "capped(self, limit)",
        "of(jobs)", "uniform(size, many)",
    ],
    Roll: [
        "__init__(self, size, jobs)", "of(jobs)", "strength(self, group)", "short_part(self, group)",
        "deal(self, group)", "greatest(self)", "alike(self, other)", "parting(self, other)",
    ],
    Evidence: ["__init__(self, size, sightings, wrong=0)", "against(self, family)", "fits(self, family)"],
}


class InterfaceTest(unittest.TestCase):

    def test_functions(self):
        for name, listed in FUNCTIONS.items():
            module = import_module("crewlists." + name)
            for text in listed:
                function = getattr(module, text.split("(")[0])
                self.assertEqual(function.__module__, module.__name__)
                self.assertEqual(function.__name__ + str(inspect.signature(function)), text)

    def test_methods_stand_in_their_classes(self):
        for kind, listed in METHODS.items():
            for text in listed:
                name = text.split("(")[0]
                self.assertIn(name, vars(kind))
                self.assertEqual(getattr(kind, name).__module__, kind.__module__)
                self.assertEqual(name + str(inspect.signature(getattr(kind, name))), text)

    def test_deals_is_a_generator(self):
        self.assertTrue(inspect.isgeneratorfunction(import_module("crewlists.dealing").deals))


class FilesTest(unittest.TestCase):

    def test_sizes_and_characters(self):
        for path in PACKAGE.glob("*.py"):
            text = path.read_text()
            rows = text.split("\n")
            self.assertLess(len(rows), 400, path)
            self.assertLessEqual(max(len(row) for row in rows), 120, path)
            self.assertTrue(all(" " <= letter <= "~" or letter == "\n" for letter in text), path)

    def test_functions_are_short(self):
        for path in PACKAGE.glob("*.py"):
            for node in ast.walk(ast.parse(path.read_text())):
                if isinstance(node, ast.FunctionDef):
                    self.assertLessEqual(node.end_lineno - node.lineno + 1, 40, (path, node.name))

    def test_imports_are_of_the_package(self):
        for path in PACKAGE.glob("*.py"):
            for node in ast.walk(ast.parse(path.read_text())):
                self.assertNotIsInstance(node, ast.Import)
                if isinstance(node, ast.ImportFrom):
                    self.assertTrue(node.module.startswith("crewlists."), path)


if __name__ == "__main__":
    unittest.main()
