"""The interface: each name stands in its file, with its arguments; and the limits of the files."""

import ast
import inspect
import unittest
from importlib import import_module
from pathlib import Path

from crewlists.asking import Asker
from crewlists.desk import Desk
from crewlists.evidence import Evidence
from crewlists.family import Family
from crewlists.house import House
from crewlists.jobs import Jobs
from crewlists.rolls import Roll
from crewlists.team import Team

PACKAGE = Path(__file__).parent.parent / "crewlists"

FUNCTIONS = {
    "groups": [
        "is_integer(thing)", "is_group(size, thing)", "groups(size)", "parts(group)", "together(one, other)",
        "apart(one, other)",
    ],
    "dealing": [
        "short_part(jobs, group)", "strength(jobs, group)", "deal(jobs, group)", "deals(jobs, group)",
        "is_deal(jobs, group, thing)", "placeable(jobs)",
    ],
    "moving": ["admit(jobs, group, dealt, person)", "both(jobs, group, wanted)"],
    "structure": [
        "hangs(family, group, person)", "closure(family, group)", "round_part(family, group)",
        "is_closed(family, group)", "is_round(family, group)", "is_knot(family, group)",
        "clash_within(family, group, person)", "clashes(family)", "knots(family)", "idle(family)", "needed(family)",
        "blocks(family)",
    ],
    "weights": ["weights(family)", "above(family, group)", "room(family, group)", "round_bound(family, rounds)"],
    "reasons": ["lists_of(family)", "is_answer(family, thing)", "is_explained(family)"],
    "greatest": ["greatest(jobs, *, many=None)", "places(jobs)", "lost(one, other)", "same(one, other)"],
    "needs": ["enough(jobs, indexes)", "least_enough(jobs)", "spare(jobs)", "alone(family, person)"],
    "changes": [
        "may_put(jobs, at, person)", "may_strike(jobs, at, person)", "least(jobs)", "is_least(jobs)",
        "least_sizes(family)",
    ],
    "lists": [
        "explains(family, jobs)", "all_tight(family, *, most=60)", "all_least(family, *, most=60)",
        "steps(one, other)",
    ],
    "sharing": ["fewest_jobs(family, person)", "share(family, one, other)"],
    "made": ["parted(one, other, group)", "common(one, other)", "helper(family, group)"],
    "likeness": ["renaming(one, other)", "symmetries(family)"],
    "cases": [
        "is_walk(evidence, begun, thing)", "walk(evidence, begun=(), *, most=400)",
        "settle(evidence, begun=(), *, most=400)",
    ],
    "sure": [
        "sure(evidence, group, *, most=400)", "fitting(evidence, *, most=400)", "trial(evidence, *, most=400)",
        "least_wrong(evidence, *, most=400)",
    ],
    "plans": ["is_plan(evidence, count, thing, *, most=400)", "least_plan(evidence, *, most=400)"],
    "asking": ["learn(size, ask)"],
    "worths": [
        "dearest(family, worths, many)", "is_dearest(family, worths, many, thing)",
        "price(family, worths, many, person)",
    ],
    "exchanges": [
        "ins(family, crew, person)", "outs(family, crew, newcomer)", "both_ways(family, one, other, person)",
        "pairing(family, one, other)", "at_once(jobs, one, other)", "path(family, one, other)",
    ],
    "notation": [
        "show_group(group)", "show_jobs(jobs)", "show_family(family)", "show_evidence(evidence)", "read_group(text)",
        "read_jobs(text)", "read_family(text)", "read_evidence(text)",
    ],
}

METHODS = {
    Jobs: [
        "__init__(self, size, jobs)", "open_to(self, group)", "outside(self, at)", "put(self, at, person)",
        "struck(self, at, person)", "picked(self, indexes)", "renamed(self, order)", "turned(self)",
        "hired(self, indexes)", "everyone(size, many)",
    ],
    Family: [
        "__init__(self, size, crews)", "strength(self, group)", "renamed(self, order)", "capped(self, limit)",
        "of(jobs)", "uniform(size, many)",
    ],
    Roll: [
        "__init__(self, size, jobs)", "of(jobs)", "strength(self, group)", "short_part(self, group)",
        "deal(self, group)", "greatest(self)", "alike(self, other)", "parting(self, other)",
    ],
    Evidence: ["__init__(self, size, sightings, wrong=0)", "against(self, family)", "fits(self, family)"],
    Asker: ["__init__(self, family)", "__call__(self, group)"],
    Team: ["__init__(self, family, crew)", "undo(self)", "during(self, deed)"],
    House: [
        "__init__(self, size, slack=0)", "forget(self, at)", "allow(self, slack)", "undo(self)", "redo(self)",
        "ask(self, group)", "until(self, count)", "branch(self)", "during(self, deed)",
    ],
    Desk: ["__init__(self, size)", "execute(self, line)"],
}

# The methods behind the signs that the document uses, and the properties; both stand in their classes, too.
SIGNS = {
    Jobs: ["eq", "len", "iter", "getitem", "abs", "add", "mul", "rmul", "or", "sub"],
    Family: ["eq", "len", "iter", "contains", "add", "or", "sub", "floordiv", "invert"],
    Roll: ["eq", "len"],
    Evidence: ["eq", "len", "add"],
    Team: ["eq", "len", "iter", "contains", "getitem", "setitem", "sub"],
    House: ["len", "iter", "getitem", "setitem"],
}
PROPERTIES = {Asker: ["asked"], Team: ["log"], House: ["slack", "log"]}
FIELDS = [
    (Jobs(1, []), ["size", "jobs"]), (Family(1, [()]), ["size", "crews", "full"]), (Roll(1, []), ["size", "jobs"]),
    (Evidence(1, []), ["size", "sightings", "wrong"]), (Team(Family(1, [()]), ()), ["family", "crew"]),
    (House(1), ["size", "told", "evidence"]), (Desk(1), ["house"]),
]


class InterfaceTest(unittest.TestCase):

    def test_functions(self):
        for name, listed in FUNCTIONS.items():
            module = import_module("crewlists." + name)
            for text in listed:
                function = getattr(module, text.split("(")[0])
                self.assertEqual(function.__module__, module.__name__)
                self.assertEqual(function.__name__ + str(inspect.signature(function)), text)

    def test_methods_stand_in_their_classes(self):
        for kind, listed in METHODS.items():
            for text in listed:
                name = text.split("(")[0]
                self.assertIn(name, vars(kind))
                self.assertEqual(getattr(kind, name).__module__, kind.__module__)
                self.assertEqual(name + str(inspect.signature(getattr(kind, name))), text)

    def test_signs_and_properties(self):
        for kind, names in SIGNS.items():
            for name in names:
                self.assertIn("__" + name + "__", vars(kind))
        for kind, names in PROPERTIES.items():
            for name in names:
                self.assertIsInstance(vars(kind)[name], property)
                self.assertIsNone(vars(kind)[name].fset)

    def test_attributes_are_set_from_the_beginning(self):
        for thing, names in FIELDS:
            self.assertLessEqual(set(names), set(vars(thing)))

    def test_deals_is_a_generator(self):
        self.assertTrue(inspect.isgeneratorfunction(import_module("crewlists.dealing").deals))


class FilesTest(unittest.TestCase):

    def test_sizes_and_characters(self):
        for path in PACKAGE.glob("*.py"):
            text = path.read_text()
            rows = text.split("\n")
            self.assertLess(len(rows), 400, path)
            self.assertLessEqual(max(len(row) for row in rows), 120, path)
            self.assertTrue(all(" " <= letter <= "~" or letter == "\n" for letter in text), path)

    def test_functions_are_short(self):
        for path in PACKAGE.glob("*.py"):
            for node in ast.walk(ast.parse(path.read_text())):
                if isinstance(node, ast.FunctionDef):
                    self.assertLessEqual(node.end_lineno - node.lineno + 1, 40, (path, node.name))

    def test_imports_are_of_the_package(self):
        for path in PACKAGE.glob("*.py"):
            for node in ast.walk(ast.parse(path.read_text())):
                self.assertNotIsInstance(node, ast.Import)
                if isinstance(node, ast.ImportFrom):
                    self.assertTrue(node.module.startswith("crewlists."), path)


if __name__ == "__main__":
    unittest.main()
