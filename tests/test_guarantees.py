"""[5], [6], [8], [12], [17]: what holds for all job lists and families, over many small ones."""

import unittest
from itertools import combinations

from crewlists.dealing import placeable, short_part, strength
from crewlists.errors import CrewError
from crewlists.family import Family
from crewlists.groups import groups
from crewlists.jobs import Jobs
from crewlists.reasons import is_explained, lists_of
from crewlists.structure import clashes, is_round, knots, needed, round_part
from crewlists.weights import above, room, weights
from helpers import (
    LINES, PAIRS, all_families, all_groups, explanations, few_families, few_lists, job_lists, large_families,
    lies_below, random_lists, slow_deals,
)


class ExplainedTest(unittest.TestCase):
    """[5]"""

    def test_by_weights_and_room(self):
        for family in few_families()[::2] + [LINES, PAIRS]:
            holds = all(weight >= 0 for _, weight in weights(family))
            holds = holds and all(above(family, group) <= room(family, group) for group in all_groups(family.size))
            self.assertEqual(is_explained(family), holds)

    def test_all_lists_of_two_jobs_of_six_people(self):
        found = explanations(6, 2)
        self.assertNotIn(PAIRS.crews, found)
        for crews in list(found)[::10]:
            self.assertTrue(is_explained(Family(6, crews)))


class GreatestTest(unittest.TestCase):
    """[6]"""

    def test_every_tight_explanation_lies_below_the_greatest(self):
        for size, many in ((0, 0), (1, 1), (2, 1), (2, 2), (3, 1), (3, 2), (3, 3), (4, 2), (4, 3), (5, 2)):
            for crews, explaining in explanations(size, many).items():
                family = Family(size, crews)
                if family.full == many:
                    greatest = lists_of(family)[1]
                    self.assertIn(greatest.jobs, [jobs.jobs for jobs in explaining])
                    for jobs in explaining:
                        self.assertTrue(lies_below(jobs, greatest))

    def test_the_greatest_has_the_outsides_of_the_knots(self):
        for family in few_families():
            answer = lists_of(family)
            if answer[0] == "jobs":
                for knot, weight in weights(family):
                    outside = tuple(person for person in range(family.size) if person not in knot)
                    self.assertEqual(answer[1].jobs.count(outside), weight)

    def test_with_more_jobs_those_who_are_needed(self):
        for size, many in ((0, 2), (1, 3), (2, 3), (2, 4), (3, 3), (3, 4)):
            for crews, explaining in explanations(size, many).items():
                family = Family(size, crews)
                further = [needed(family)] * (many - family.full)
                greatest = lists_of(family)[1] + Jobs(size, further)
                self.assertEqual(Family.of(greatest), family)
                for jobs in explaining:
                    self.assertTrue(lies_below(jobs, greatest))


class EnoughJobsTest(unittest.TestCase):
    """[8]"""

    def setUp(self):
        self.lists = few_lists() + job_lists(2, 4) + job_lists(4, 2) + random_lists(14, 40, 5)

    def test_jobs_that_are_enough_hold_a_deal_of_a_crew(self):
        for jobs in self.lists[::3]:
            family = Family.of(jobs)
            used = [set(dealt) for crew in family.crews for dealt in slow_deals(jobs, crew)]
            least = []
            for indexes in all_groups(len(jobs)):
                enough = Family.of(jobs.picked(indexes)) == family
                self.assertEqual(enough, any(dealt <= set(indexes) for dealt in used))
                if enough and not any(set(other) <= set(indexes) for other in least):
                    least.append(indexes)
            self.assertEqual(tuple(least), Family.of(jobs.turned()).crews)

    def test_jobs_open_to_a_round_group(self):
        for jobs in self.lists:
            family = Family.of(jobs)
            for group in all_groups(jobs.size):
                if is_round(family, group):
                    self.assertEqual(len(jobs.open_to(group)), family.strength(group))

    def test_short_parts_are_round_parts(self):
        for jobs in self.lists:
            family = Family.of(jobs)
            for group in all_groups(jobs.size):
                self.assertEqual(short_part(jobs, group), round_part(family, group))
                self.assertEqual(strength(jobs, group), family.strength(group))

    def test_if_nobody_is_needed(self):
        for jobs in self.lists:
            family = Family.of(jobs)
            if not needed(family):
                self.assertEqual(len([job for job in jobs if job]), family.full)
                for pair in combinations(range(jobs.size), 2):
                    if pair not in family and pair[:1] in family and pair[1:] in family:
                        self.assertEqual(len(jobs.open_to(pair)), 1)

    def test_the_turned_list_is_as_strong(self):
        for jobs in self.lists:
            self.assertEqual(abs(jobs.turned()), abs(jobs))


class MadeFamiliesTest(unittest.TestCase):
    """[12]"""

    def assert_agrees(self, deed, made):
        try:
            found = deed()
        except CrewError:
            return
        self.assertEqual(Family.of(found), made())

    def test_plus_and_side_by_side(self):
        lists = few_lists()[::7] + random_lists(15, 12) + random_lists(16, 12, 4)
        for one in lists:
            for other in lists:
                self.assert_agrees(lambda: one + other, lambda: Family.of(one) + Family.of(other))
                self.assert_agrees(lambda: one | other, lambda: Family.of(one) | Family.of(other))

    def test_without_a_group(self):
        for jobs in few_lists()[::3] + random_lists(17, 12):
            for group in all_groups(jobs.size):
                self.assertEqual(Family.of(jobs - group), Family.of(jobs) - group)

    def test_they_are_explained(self):
        families = [Family.of(jobs) for jobs in few_lists()[::9] + random_lists(18, 8)]
        for one in families:
            self.assertTrue(is_explained(one - tuple(range(0, one.size, 3))))
            for other in families:
                if one.size == other.size:
                    self.assertTrue(is_explained(one + other))
                if one.size + other.size <= 7:
                    self.assertTrue(is_explained(one | other))

    def test_others_may_not_be(self):
        pairs = Family.uniform(2, 1) | Family.uniform(2, 1) | Family.uniform(2, 1)
        self.assertTrue(is_explained(pairs))
        self.assertFalse(is_explained(pairs.capped(2)))
        self.assertTrue(is_explained(~~pairs))


class RenamingTest(unittest.TestCase):
    """[17]"""

    def setUp(self):
        self.pairs = []
        for family in all_families(3) + all_families(4)[::4] + large_families():
            orders = [tuple(range(family.size))[::-1], tuple(range(1, family.size)) + (0,) * bool(family.size)]
            self.pairs.extend([(family, order) for order in orders])

    def called(self, group, order):
        return tuple(sorted(order[person] for person in group))

    def test_strengths_clashes_and_knots(self):
        for family, order in self.pairs:
            other = family.renamed(order)
            for group in groups(family.size):
                self.assertEqual(family.strength(group), other.strength(self.called(group, order)))
            for function in (clashes, knots):
                renamed = {self.called(group, order) for group in function(family)}
                self.assertEqual(renamed, set(function(other)))

    def test_weights_and_answers(self):
        for family, order in self.pairs:
            other = family.renamed(order)
            renamed = {self.called(knot, order): weight for knot, weight in weights(family)}
            self.assertEqual(renamed, dict(weights(other)))
            one, two = lists_of(family), lists_of(other)
            self.assertEqual(one[0], two[0])
            if one[0] == "jobs":
                self.assertEqual(sorted(one[1].renamed(order).jobs), sorted(two[1].jobs))

    def test_job_lists(self):
        for jobs in random_lists(19, 30):
            order = tuple(range(jobs.size))[::-1]
            other = jobs.renamed(order)
            self.assertEqual(Family.of(jobs).renamed(order), Family.of(other))
            self.assertEqual({self.called(group, order) for group in placeable(jobs)}, set(placeable(other)))


if __name__ == "__main__":
    unittest.main()
