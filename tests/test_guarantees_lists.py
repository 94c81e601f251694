"""[6], [7], [9], [17]: what holds for the greatest lists, for putting and striking, and for other names."""

import unittest
from itertools import combinations

from crewlists.changes import is_least, least, least_sizes, may_put, may_strike
from crewlists.errors import TooMany
from crewlists.family import Family
from crewlists.greatest import greatest, same
from crewlists.jobs import Jobs
from crewlists.lists import all_least, all_tight
from crewlists.made import common, helper, parted
from crewlists.needs import alone
from crewlists.reasons import is_explained, lists_of
from crewlists.sharing import fewest_jobs, share
from helpers import (
    all_families, all_groups, explained_families, explanations, few_lists, grown, in_order, job_lists, large_families,
    lies_below, minus, random_lists, slow_apart, slow_clashes, tight,
)


class GreatestTest(unittest.TestCase):
    """[6]"""

    def test_each_number_of_jobs_has_its_greatest_list(self):
        for size, many in ((0, 2), (1, 3), (2, 3), (2, 4), (3, 2), (3, 3), (4, 2)):
            for explaining in explanations(size, many).values():
                upper = greatest(explaining[0], many=many)
                self.assertIn(upper, explaining)
                for jobs in explaining:
                    self.assertTrue(lies_below(jobs, upper))
                    self.assertEqual(greatest(jobs, many=many), upper)


class AlikeTest(unittest.TestCase):
    """[7]"""

    def test_alike_if_the_greatest_lists_are_equal(self):
        rows = job_lists(2, 2) + job_lists(2, 3)[::2] + job_lists(3, 2)[::2] + random_lists(141, 40)
        for one, other in combinations(rows, 2):
            if one.size == other.size:
                unlike = slow_apart(one, other)
                self.assertEqual(greatest(one) == greatest(other), unlike == [])
                self.assertEqual(same(one, other)[0] == "same", unlike == [])
                if unlike:
                    self.assertLessEqual(len(unlike[0]), min(abs(one), abs(other)) + 1)


class PuttingAndStrikingTest(unittest.TestCase):
    """[9]"""

    def test_put_if_no_clash_of_others_is_met(self):
        for jobs in few_lists()[::2] + random_lists(142, 25):
            clashes = slow_clashes(Family.of(jobs))
            for at, job in enumerate(jobs.jobs):
                for person in minus(range(jobs.size), job):
                    outside = set(range(jobs.size)) - set(job)
                    barred = any(person in clash and set(clash) <= outside for clash in clashes)
                    self.assertEqual(may_put(jobs, at, person) is not None, barred)

    def test_nobody_can_be_struck_from_a_job(self):
        for family, explaining in explained_families()[::6]:
            for jobs in explaining[::7]:
                for at, job in enumerate(jobs.jobs):
                    fixed = all(may_strike(jobs, at, person) is not None for person in job)
                    self.assertEqual(fixed, family.strength(jobs.outside(at)) == family.full - 1)

    def test_least_lists(self):
        for jobs in [tight(jobs) for jobs in few_lists()[::3] + random_lists(143, 30)]:
            found, family = least(jobs), Family.of(jobs)
            self.assertEqual(len(set(found.jobs)), len(found))
            self.assertEqual(sorted(map(len, found.jobs)), sorted(least_sizes(family)))
            self.assertIs(is_least(found), True)


class RenamingTest(unittest.TestCase):
    """[17]"""

    def setUp(self):
        families = all_families(3) + all_families(4)[::6] + all_families(5)[::90] + large_families()[::4]
        self.pairs = [
            (family, order)
            for family in families
            for order in (tuple(range(family.size))[::-1], tuple(range(1, family.size)) + (0,) * bool(family.size))
        ]
        self.explained = [(family, order) for family, order in self.pairs if is_explained(family)]

    def called(self, group, order):
        return tuple(sorted(order[person] for person in group))

    def rows(self, jobs, order):
        return tuple(in_order(self.called(job, order) for job in jobs.jobs))

    def test_greatest_lists(self):
        for family, order in self.explained:
            upper = lists_of(family)[1]
            self.assertEqual(greatest(upper.renamed(order)).jobs, self.rows(upper, order))

    def test_first_words(self):
        for family, order in self.explained:
            other = family.renamed(order)
            for person in range(family.size):
                self.assertEqual(alone(family, person), alone(other, order[person]))
                self.assertEqual(len(fewest_jobs(family, person)), len(fewest_jobs(other, order[person])))
            for one, two in combinations(range(family.size), 2):
                self.assertEqual(share(family, one, two)[0], share(other, order[one], order[two])[0])

    def test_first_words_of_same(self):
        rows = job_lists(3, 2)[::4] + random_lists(144, 20)
        for one, other in combinations(rows, 2):
            if one.size == other.size:
                order = tuple(range(one.size))[::-1]
                self.assertEqual(same(one, other)[0], same(one.renamed(order), other.renamed(order))[0])

    def test_all_tight_and_all_least_explanations(self):
        for family, order in self.explained:
            if family.size < 6:
                for function in (all_tight, all_least):
                    try:
                        found = function(family, most=100)
                    except TooMany:
                        with self.assertRaises(TooMany):
                            function(family.renamed(order), most=100)
                        continue
                    renamed = [jobs.jobs for jobs in function(family.renamed(order), most=100)]
                    self.assertEqual(sorted(self.rows(jobs, order) for jobs in found), renamed)

    def test_made_families(self):
        for family, order in self.pairs[::3]:
            other = family.renamed(order)
            for group in all_groups(family.size)[::5]:
                word = parted(family, family, group)[0]
                self.assertEqual(word, parted(other, other, self.called(group, order))[0])
                if family.size < 7:
                    renamed = helper(other, self.called(group, order))
                    self.assertEqual(helper(family, group).renamed(order + (family.size,)), renamed)
            self.assertEqual(len(common(family, ~family)[0]), len(common(other, ~other)[0]))


class ListsTest(unittest.TestCase):

    def test_what_is_returned_is_alike(self):
        for jobs in random_lists(145, 30):
            for found in (greatest(jobs), greatest(jobs, many=7), least(jobs)):
                self.assertIsInstance(found, Jobs)
                self.assertEqual(grown(found), grown(jobs))


if __name__ == "__main__":
    unittest.main()
