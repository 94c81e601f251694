"""[2], [3], [4], [75]: plans of trials."""

import unittest
from functools import cache
from random import Random

from crewlists.errors import TooMany
from crewlists.evidence import Evidence
from crewlists.family import Family
from crewlists.plans import is_plan, least_plan
from helpers import (
    all_groups, drawn_evidence, odd_values, parts_of, same_kind, scattered, seen, slow_fitting, slow_walk, spoilt,
)

ONE = Evidence(1, [((0,), True)])
NONE = Evidence(2, [((), False)])
TWO = Evidence(2, [])
PLAN = [
    ("try", (0,), 1, 4), ("try", (0, 1), 2, 3), ("family", ((0, 1),)), ("try", (1,), 5, 6), ("try", (1,), 7, 8),
    ("family", ((0,), (1,))), ("family", ((0,),)), ("family", ((1,),)), ("family", ((),)),
]


def has(crews, group):
    """Return whether a group is placeable in the family of the crews."""
    return any(set(group) <= set(crew) for crew in crews)


def slow_is_plan(evidence, count, thing):
    """Return whether thing is a plan, each way gone through from row 0."""
    families = slow_fitting(evidence)
    if thing.__class__ is not list or not families:
        return same_kind(thing, [])
    met = []

    def right(at, possible, trials):
        if at in met or at >= len(thing):
            return False
        met.append(at)
        row = thing[at]
        if same_kind(row, ("family", possible[0])):
            return len(possible) == 1
        if row.__class__ is not tuple or len(row) != 4 or not same_kind(row[0], "try") or trials < 1:
            return False
        _, group, yes, no = row
        if not any(same_kind(group, other) for other in all_groups(evidence.size)):
            return False
        if any(to.__class__ is not int or to <= at for to in (yes, no)):
            return False
        having = [crews for crews in possible if has(crews, group)]
        without = [crews for crews in possible if not has(crews, group)]
        return bool(having and without) and right(yes, having, trials - 1) and right(no, without, trials - 1)

    return right(0, families, count) and len(met) == len(thing)


def any_plan(chance, evidence):
    """Return a plan with any right trial in each case, the rows in any order that is right."""
    def expand(possible):
        if len(possible) == 1:
            return ("family", possible[0]), []
        splits = []
        for group in all_groups(evidence.size):
            having = [crews for crews in possible if has(crews, group)]
            if 0 < len(having) < len(possible):
                splits.append((group, having, [crews for crews in possible if crews not in having]))
        group, having, without = chance.choice(splits)
        return ("try", group), [having, without]

    return scattered(chance, expand, slow_fitting(evidence))


def trials(plan, at=0):
    """Return the greatest number of trials on a way from a row on."""
    if plan == [] or plan[at][0] == "family":
        return 0
    return 1 + max(trials(plan, plan[at][2]), trials(plan, plan[at][3]))


def least_trials(size, families):
    """Return the least number of trials that tell the families apart, by going through all plans."""
    @cache
    def least(possible):
        if len(possible) < 2:
            return 0
        counts = []
        for group in all_groups(size):
            having = tuple(crews for crews in possible if has(crews, group))
            if 0 < len(having) < len(possible):
                without = tuple(crews for crews in possible if crews not in having)
                counts.append(1 + max(least(having), least(without)))
        return min(counts)

    return least(tuple(families))


def small_evidence(seed, count):
    """Return some Evidence of at most four people that few families fit."""
    chance = Random(seed)
    found = [evidence for evidence in drawn_evidence(seed, count) if len(slow_fitting(evidence)) < 9]
    for _ in range(count):
        family = Family.uniform(chance.randint(2, 4), 2)
        found.append(Evidence(family.size, seen(chance, family, chance.randint(6, 14), 0)))
    return [evidence for evidence in found if len(slow_fitting(evidence)) < 9]


class IsPlanTest(unittest.TestCase):

    def assert_plan(self, right, evidence, count, thing):
        self.assertIs(is_plan(evidence, count, thing), right, (evidence.size, evidence.sightings, count, thing))

    def test_what_least_plan_returns(self):
        found = 0
        for evidence in small_evidence(281, 60):
            if len(slow_fitting(evidence)) < 6:
                count, plan = least_plan(evidence)
                for given in range(count + 3):
                    self.assert_plan(given >= count, evidence, given, plan)
                found += count > 1
        self.assertGreater(found, 10)

    def test_plans_of_another_kind(self):
        chance = Random(282)
        unlike = 0
        for evidence in small_evidence(283, 40) + [TWO] * 5 + [Evidence(3, [])] * 5:
            if slow_fitting(evidence):
                for _ in range(3):
                    plan = any_plan(chance, evidence)
                    most = trials(plan)
                    for count in range(most + 2):
                        self.assert_plan(count >= most, evidence, count, plan)
                    self.assert_plan(True, evidence, 10 ** 30, plan)
                    unlike += most > least_trials(evidence.size, slow_fitting(evidence))
        self.assertGreater(unlike, 15)

    def test_spoilt_in_one_place(self):
        chance = Random(284)
        counts = [0, 0]
        for evidence in small_evidence(285, 40) + [ONE, NONE, TWO]:
            plan = any_plan(chance, evidence) if slow_fitting(evidence) else []
            for _ in range(25):
                thing = spoilt(chance, plan)
                count = trials(plan) + chance.randint(0, 1)
                right = slow_is_plan(evidence, count, thing)
                self.assert_plan(right, evidence, count, thing)
                counts[right] += 1
        self.assertGreater(counts[False], 800)
        self.assertGreater(counts[True], 10)

    def test_plans_of_other_evidence(self):
        chance = Random(286)
        rows = small_evidence(287, 14)
        plans = [any_plan(chance, evidence) if slow_fitting(evidence) else [] for evidence in rows]
        for evidence in rows:
            for plan in plans:
                self.assert_plan(slow_is_plan(evidence, 9, plan), evidence, 9, plan)

    def test_five_families(self):
        self.assertEqual(sorted(slow_fitting(TWO)), [((),), ((0,),), ((0,), (1,)), ((0, 1),), ((1,),)])
        # Row 4 is the no case of row 0; the others stand behind the rows that name them.
        self.assert_plan(True, TWO, 3, PLAN)
        self.assert_plan(False, TWO, 2, PLAN)
        self.assert_plan(False, TWO, 3, PLAN[:-1])
        self.assert_plan(False, TWO, 3, PLAN + [("family", ((),))])
        self.assert_plan(False, TWO, 3, tuple(PLAN))

    def test_rows_that_are_wrong(self):
        bad = {
            0: [("try", (0,), 1, 1), ("try", (0,), 4, 1), ("try", (0,), 0, 4), ("try", (0,), True, 4),
                ("try", (0,), 1, 9), ("try", (), 1, 4), ("try", (1,), 1, 4), ("try", [0], 1, 4),
                ("try", (False,), 1, 4), ("try", (2,), 1, 4), ["try", (0,), 1, 4], ("ask", (0,), 1, 4),
                ("try", (0,), 1), ("try", (0,), 1, 4, 4), ("family", ((0, 1),))],
            1: [("try", (0,), 2, 3), ("try", (0, 1), 3, 2), ("try", (0, 1), 2, 4), ("try", (0, 1), 2, 2),
                ("family", ((0, 1),))],
            2: [("family", [(0, 1)]), ("family", ((False, True),)), ("family", ((0, True),)), ("family", ((1, 0),)),
                ("family", ((0, 1), (0, 1))), ("family", ()), ("family",), ("family", ((0, 1),), 0), ("family", (0, 1)),
                ("fits", ((0, 1),)), ("family", ((0,),)), ("family", Family(2, [(0, 1)])), ("family", None)],
            5: [("family", ((1,), (0,))), ("family", ((0,),)), ("family", ((0,), (1,), (1,))), ("family", ((0,), [1]))],
            8: [("family", ()), ("family", ((), ())), ("family", ([],)), ("family", [()]), ("family", "")],
        }
        for at, rows in bad.items():
            for row in rows:
                self.assert_plan(False, TWO, 9, PLAN[:at] + [row] + PLAN[at + 1:])

    def test_rows_that_name_themselves_or_one_another(self):
        ends = [("family", ((),))] * 5
        for rows in (
            [("try", (0,), 2, 3), ("try", (1,), 1, 4)], [("try", (0,), 2, 3), ("try", (1,), 4, 1)],
            [("try", (0,), 3, 4), ("try", (1,), 2, 5), ("try", (1,), 1, 6)],
            [("try", (0,), 0, 1)], [("try", (0,), 1, 0)],
        ):
            named = max(row[2] for row in rows), max(row[3] for row in rows)
            self.assert_plan(False, TWO, 9, rows + ends[:max(named) + 1 - len(rows)])

    def test_no_family_fits(self):
        self.assert_plan(True, NONE, 0, [])
        self.assert_plan(True, NONE, 7, [])
        for thing in odd_values() + [PLAN, [("family", ((),))], [("family", ())], [[]], [()], (), "", {}]:
            if not same_kind(thing, []):
                self.assert_plan(False, NONE, 3, thing)

    def test_one_family(self):
        self.assert_plan(True, ONE, 0, [("family", ((0,),))])
        for thing in [[], [("family", ((),))], [("try", (0,), 1, 2), ("family", ((0,),)), ("family", ((),))], None]:
            self.assert_plan(False, ONE, 5, thing)

    def test_any_values(self):
        things = odd_values() + [[value] for value in odd_values()] + [[("family", value)] for value in odd_values()]
        things += [PLAN[:at] + [value] + PLAN[at + 1:] for value in odd_values() for at in (0, 4, 8)]
        things += [PLAN + [value] for value in odd_values()]
        things += [[("try", value, 1, 4)] + PLAN[1:] for value in odd_values()]
        things += [[("try", (0,), 1, value)] + PLAN[1:] for value in odd_values()]
        for evidence in (TWO, ONE, Evidence(0, [])):
            for thing in things:
                self.assert_plan(slow_is_plan(evidence, 9, thing), evidence, 9, thing)
        for thing in things:
            self.assert_plan(False, TWO, 9, thing)

    def test_too_many(self):
        for evidence in small_evidence(288, 20) + [Evidence(3, [])]:
            needed = len(slow_walk(evidence))
            for thing in ([], None, PLAN):
                for most in {1, needed - 1} & set(range(1, needed)):
                    with self.assertRaises(TooMany) as caught:
                        is_plan(evidence, 3, thing, most=most)
                    self.assertTrue(same_kind(caught.exception.limit, most))
                self.assertIs(is_plan(evidence, 3, thing, most=needed), is_plan(evidence, 3, thing))
        with self.assertRaises(TooMany) as caught:
            is_plan(Evidence(6, []), 3, [])
        self.assertTrue(same_kind(caught.exception.limit, 400))

    def test_the_plan_stays(self):
        plan = list(PLAN)
        is_plan(TWO, 3, plan)
        self.assertTrue(same_kind(plan, PLAN))


class LeastPlanTest(unittest.TestCase):

    def test_against_a_slow_search(self):
        counts = {}
        for evidence in small_evidence(291, 150) + [ONE, NONE, TWO, Evidence(0, []), Evidence(1, [])]:
            families = slow_fitting(evidence)
            if len(families) < 6:
                count, plan = least_plan(evidence)
                self.assertTrue(same_kind(count, least_trials(evidence.size, families)))
                self.assertIs(slow_is_plan(evidence, count, plan), True)
                self.assertEqual(trials(plan), count)
                counts[len(families), count] = True
        self.assertGreaterEqual({many for many, _ in counts}, {0, 1, 2, 3, 4, 5})
        self.assertGreaterEqual({count for _, count in counts}, {0, 1, 2, 3})

    def test_edges(self):
        self.assertTrue(same_kind(least_plan(NONE), (0, [])))
        self.assertTrue(same_kind(least_plan(ONE), (0, [("family", ((0,),))])))
        expected = (1, [("try", (0,), 1, 2), ("family", ((0,),)), ("family", ((),))])
        self.assertTrue(same_kind(least_plan(Evidence(1, [])), expected))
        self.assertEqual(least_plan(TWO)[0], 3)

    def test_five_families_and_six(self):
        met = {}
        for evidence in small_evidence(292, 150):
            many = len(slow_fitting(evidence))
            met[many] = True
            if many > 5:
                with self.assertRaises(TooMany) as caught:
                    least_plan(evidence)
                self.assertTrue(same_kind(caught.exception.limit, 5))
            else:
                self.assertEqual(len(least_plan(evidence)), 2)
        self.assertGreaterEqual(set(met), {4, 5, 6})

    def test_six_behind_too_many_rows(self):
        evidence = Evidence(3, [])
        needed = len(slow_walk(evidence))
        for most, limit in ((needed - 1, needed - 1), (1, 1), (needed, 5), (400, 5)):
            with self.assertRaises(TooMany) as caught:
                least_plan(evidence, most=most)
            self.assertTrue(same_kind(caught.exception.limit, limit))
        needed = len(slow_walk(TWO))
        self.assertEqual(least_plan(TWO, most=needed)[0], 3)
        with self.assertRaises(TooMany) as caught:
            least_plan(TWO, most=needed - 1)
        self.assertTrue(same_kind(caught.exception.limit, needed - 1))
        with self.assertRaises(TooMany) as caught:
            least_plan(Evidence(5, []))
        self.assertTrue(same_kind(caught.exception.limit, 400))

    def test_each_trial_tells(self):
        # A way through the plan leads to the very family that answers the trials.
        for evidence in small_evidence(293, 40):
            families = slow_fitting(evidence)
            if 0 < len(families) < 6:
                plan = least_plan(evidence)[1]
                for crews in families:
                    row = plan[0]
                    while row[0] == "try":
                        placed = [part for crew in crews for part in parts_of(crew)]
                        row = plan[row[2] if row[1] in placed else row[3]]
                    self.assertEqual(row, ("family", crews))

    def test_most_by_keyword_and_a_new_list(self):
        with self.assertRaises(TypeError):
            least_plan(TWO, 400)
        with self.assertRaises(TypeError):
            is_plan(TWO, 3, PLAN, 400)
        for evidence in (TWO, NONE):
            expected = list(least_plan(evidence)[1])
            least_plan(evidence)[1].append(0)
            self.assertEqual(least_plan(evidence)[1], expected)


if __name__ == "__main__":
    unittest.main()
