"""[3], [73]: what evidence makes sure."""

import unittest
from random import Random

from crewlists.cases import settle, walk
from crewlists.errors import TooMany
from crewlists.evidence import Evidence
from crewlists.family import Family
from crewlists.jobs import Jobs
from crewlists.reasons import lists_of
from crewlists.sure import fitting, least_wrong, sure, trial
from helpers import (
    PAIRS, all_groups, drawn, drawn_evidence, same_kind, slow_fitting, slow_part_of_crews, slow_walk, until_it_fits,
)

SIX = Evidence(6, [(group, group in PAIRS) for group in all_groups(6) if 1 < len(group) < 4][:35])


def settled(rows, size):
    """Return what settling returns for a slow walk."""
    fits = [row[1] for row in rows if row[0] == "fits"]
    return lists_of(Family(size, fits[0])) if fits else ("none", rows)


def slow_trial(size, families):
    """Return the best group to try, by going through all groups."""
    found = []
    for at, group in enumerate(all_groups(size)):
        yes = sum(slow_part_of_crews(family, group) == len(group) for family in families)
        no = len(families) - yes
        if yes and no:
            found.append((max(yes, no), at, (group, yes, no)))
    return min(found)[2] if found else None


class LimitTest(unittest.TestCase):

    def assert_limit(self, needed, function, *given):
        """Assert that TooMany is raised if and only if most is less than the rows that are needed."""
        for most in {1, needed // 2, needed - 1, needed, needed + 1, 400} & set(range(1, 401)):
            if most < needed:
                with self.assertRaises(TooMany) as caught:
                    function(*given, most=most)
                self.assertTrue(same_kind(caught.exception.limit, most))
            else:
                function(*given, most=most)


class SureTest(LimitTest):

    def setUp(self):
        self.evidence = drawn_evidence(231, 60) + [Evidence(2, []), Evidence(1, [], 40), Evidence(3, drawn(1, 3, 5), 1)]

    def test_against_two_slow_walks(self):
        counts = {"open": 0, "yes": 0, "no": 0, "none": 0}
        for evidence in self.evidence:
            for group in all_groups(evidence.size)[1::2]:
                one = settled(slow_walk(evidence, ((group, True),)), evidence.size)
                other = settled(slow_walk(evidence, ((group, False),)), evidence.size)
                expected = {
                    ("jobs", "jobs"): ("open", one[1], other[1]), ("jobs", "none"): ("yes", one[1], other[1]),
                    ("none", "jobs"): ("no", other[1], one[1]), ("none", "none"): ("none", one[1], other[1]),
                }[one[0], other[0]]
                self.assertTrue(same_kind(sure(evidence, group), expected))
                counts[expected[0]] += 1
        self.assertGreater(min(counts.values()), 15)

    def test_by_the_families_that_fit(self):
        for evidence in self.evidence:
            families = [Family(evidence.size, crews) for crews in slow_fitting(evidence)]
            for group in all_groups(evidence.size)[1:]:
                truths = {group in family for family in families}
                word = {(): "none", (True,): "yes", (False,): "no", (False, True): "open"}[tuple(sorted(truths))]
                self.assertEqual(sure(evidence, group)[0], word)

    def test_the_second_and_third_parts(self):
        found = sure(Evidence(1, []), (0,))
        self.assertTrue(same_kind(found, ("open", Jobs(1, [(0,)]), Jobs(1, []))))
        found = sure(Evidence(1, [((0,), True)]), (0,))
        self.assertTrue(same_kind(found, ("yes", Jobs(1, [(0,)]), [("wrong", (0,))])))
        found = sure(Evidence(1, [((0,), False)]), (0,))
        self.assertTrue(same_kind(found, ("no", Jobs(1, []), [("wrong", (0,))])))
        found = sure(Evidence(1, [((), False)]), (0,))
        self.assertTrue(same_kind(found, ("none", [("wrong", (0,))], [("wrong", (0,))])))

    def test_too_many(self):
        for evidence in self.evidence[::2]:
            for group in all_groups(evidence.size)[1::3]:
                rows = [slow_walk(evidence, ((group, truth),)) for truth in (True, False)]
                self.assert_limit(max(map(until_it_fits, rows)), sure, evidence, group)

    def test_400_rows_by_default(self):
        # One of the two settlings makes 477 rows, the other one few.
        evidence = Evidence(6, drawn(2, 6, 40), 9)
        self.assertEqual(len(settle(evidence, (((4,), True),), most=477)[1]), 477)
        self.assertEqual(settle(evidence, (((4,), False),))[0], "jobs")
        self.assertEqual(sure(evidence, (4,), most=477)[0], "no")
        with self.assertRaises(TooMany) as caught:
            sure(evidence, (4,))
        self.assertTrue(same_kind(caught.exception.limit, 400))

    def test_six_people(self):
        found = sure(SIX, (0, 1, 2, 3))
        self.assertEqual(found[0], "none")
        self.assertEqual(found[2], walk(SIX, (((0, 1, 2, 3), False),)))

    def test_new_lists(self):
        evidence = Evidence(1, [((), False)])
        found = sure(evidence, (0,))
        self.assertIsNot(found[1], found[2])
        found[1].clear()
        self.assertEqual(sure(evidence, (0,))[1], [("wrong", (0,))])


class FittingTest(LimitTest):

    def setUp(self):
        self.evidence = drawn_evidence(241, 60) + [Evidence(size, []) for size in range(5)]
        self.evidence += [Evidence(size, drawn(many, size, many), 2) for size in range(4) for many in (3, 6, 20)]

    def test_all_families_with_an_explanation(self):
        for evidence in self.evidence:
            found = fitting(evidence)
            self.assertIsInstance(found, list)
            self.assertTrue(all(isinstance(family, Family) for family in found))
            self.assertTrue(all(family.size == evidence.size for family in found))
            crews = [family.crews for family in found]
            self.assertEqual(sorted(crews), sorted(slow_fitting(evidence)))
            self.assertEqual(len(set(crews)), len(crews))

    def test_in_the_order_of_the_walk(self):
        for evidence in self.evidence:
            crews = [row[1] for row in slow_walk(evidence) if row[0] == "fits"]
            self.assertEqual([family.crews for family in fitting(evidence)], crews)

    def test_too_many(self):
        for evidence in self.evidence[::2]:
            needed = len(slow_walk(evidence))
            self.assert_limit(needed, fitting, evidence)
            self.assert_limit(needed, trial, evidence)

    def test_400_rows_by_default(self):
        for function in (fitting, trial):
            for evidence in (Evidence(5, []), Evidence(6, [], 40)):
                with self.assertRaises(TooMany) as caught:
                    function(evidence)
                self.assertTrue(same_kind(caught.exception.limit, 400))

    def test_a_new_list(self):
        evidence = Evidence(2, [])
        fitting(evidence).clear()
        self.assertEqual(len(fitting(evidence)), 5)

    def test_six_people(self):
        self.assertEqual(fitting(SIX), [])
        self.assertIsNone(trial(SIX))
        more = Evidence(6, SIX.sightings, 1)
        found = fitting(more)
        self.assertEqual(len(found), 3)
        self.assertNotIn(PAIRS, found)
        self.assertEqual([more.fits(family) for family in found], [True] * 3)


class TrialTest(unittest.TestCase):

    def test_against_a_slow_search(self):
        counts = [0, 0]
        for evidence in drawn_evidence(251, 120) + [Evidence(size, []) for size in range(5)]:
            families = [Family(evidence.size, crews) for crews in slow_fitting(evidence)]
            found = trial(evidence)
            self.assertTrue(same_kind(found, slow_trial(evidence.size, families)))
            counts[found is None] += 1
        self.assertGreater(min(counts), 20)

    def test_the_lesser_of_the_greater_numbers(self):
        self.assertEqual(trial(Evidence(1, [])), ((0,), 1, 1))
        # Of five families, (0,) is placeable in three, (0, 1) in one.
        self.assertEqual(trial(Evidence(2, [])), ((0,), 3, 2))
        self.assertEqual(trial(Evidence(2, [((0,), True)])), ((1,), 2, 1))
        self.assertEqual(trial(Evidence(2, [((0,), True), ((1,), True)])), ((0, 1), 1, 1))

    def test_one_family_and_none(self):
        self.assertIsNone(trial(Evidence(0, [])))
        self.assertIsNone(trial(Evidence(2, [((0, 1), True)])))
        self.assertIsNone(trial(Evidence(2, [((), False)])))


class LeastWrongTest(LimitTest):

    def setUp(self):
        self.evidence = drawn_evidence(261, 60) + [Evidence(size, drawn(size, size, 14)) for size in range(5)]

    def test_against_slow_walks(self):
        counts = {}
        for evidence in self.evidence:
            rows, count = [], 0
            while True:
                found = slow_walk(Evidence(evidence.size, evidence.sightings, count))
                word, jobs = settled(found, evidence.size)
                if word == "jobs":
                    break
                rows, count = found, count + 1
            self.assertTrue(same_kind(least_wrong(evidence), (count, jobs, rows)))
            counts[count] = True
        self.assertGreater(len(counts), 4)

    def test_the_least_number_of_wrong_ones(self):
        for evidence in self.evidence:
            count = least_wrong(evidence)[0]
            self.assertTrue(slow_fitting(Evidence(evidence.size, evidence.sightings, count)))
            if count:
                self.assertEqual(slow_fitting(Evidence(evidence.size, evidence.sightings, count - 1)), [])

    def test_the_wrong_of_the_evidence_is_not_asked_for(self):
        rows = [((0,), True), ((0,), False)]
        for wrong in (0, 1, 2, 40):
            expected = (1, Jobs(1, [(0,)]), [("ask", (0,), 1, 2), ("wrong", (1,)), ("wrong", (0,))])
            self.assertTrue(same_kind(least_wrong(Evidence(1, rows, wrong)), expected))

    def test_edges(self):
        self.assertTrue(same_kind(least_wrong(Evidence(0, [])), (0, Jobs(0, []), [])))
        self.assertEqual(least_wrong(Evidence(6, []))[::2], (0, []))
        count, jobs, rows = least_wrong(Evidence(2, [((), False)] * 40))
        self.assertEqual((count, jobs, rows), (40, Jobs.everyone(2, 2), [("wrong", tuple(range(40)))]))
        count, _, rows = least_wrong(SIX)
        self.assertEqual((count, rows), (1, walk(SIX)))

    def test_too_many(self):
        for evidence in self.evidence[::2]:
            count = least_wrong(evidence)[0]
            walks = [slow_walk(Evidence(evidence.size, evidence.sightings, wrong)) for wrong in range(count + 1)]
            self.assert_limit(max(map(until_it_fits, walks)), least_wrong, evidence)

    def test_no_more_is_settled_than_needed(self):
        # The whole walk of five people has far more than 60 rows, settling has not.
        self.assertEqual(least_wrong(Evidence(5, []), most=60)[0], 0)

    def test_400_rows_by_default(self):
        chance = Random(262)
        rows = [(chance.choice(all_groups(6)), chance.choice([True, False])) for _ in range(40)]
        with self.assertRaises(TooMany) as caught:
            least_wrong(Evidence(6, rows))
        self.assertTrue(same_kind(caught.exception.limit, 400))

    def test_a_new_list(self):
        evidence = Evidence(1, [((), False)])
        least_wrong(evidence)[2].clear()
        self.assertEqual(least_wrong(evidence)[2], [("wrong", (0,))])
        none = least_wrong(Evidence(1, []))[2]
        none.append(0)
        self.assertEqual(least_wrong(Evidence(1, []))[2], [])


class ArgumentsTest(unittest.TestCase):

    def test_most_by_keyword(self):
        evidence = Evidence(1, [])
        for function, given in ((sure, ((0,),)), (fitting, ()), (trial, ()), (least_wrong, ())):
            function(evidence, *given, most=400)
            with self.assertRaises(TypeError):
                function(evidence, *given, 400)

    def test_the_evidence_stays(self):
        evidence = Evidence(3, drawn(271, 3, 9), 1)
        copy = Evidence(3, drawn(271, 3, 9), 1)
        sure(evidence, (0, 1)), fitting(evidence), trial(evidence), least_wrong(evidence)
        self.assertEqual(evidence, copy)


if __name__ == "__main__":
    unittest.main()
