"""[10], [60]: all tight and all least explanations, and the shortest ways between alike job lists."""

import unittest
from itertools import permutations
from random import Random

from crewlists.changes import is_least
from crewlists.errors import NotAlike, TooMany, Unlike
from crewlists.family import Family
from crewlists.greatest import greatest
from crewlists.jobs import Jobs
from crewlists.lists import all_least, all_tight, explains, steps
from crewlists.reasons import lists_of
from helpers import (
    all_families, explained_families, few_families, few_lists, filled, grown, in_order, job_lists, large_families,
    lies_below, random_lists, same_kind, slow_apart, struck_lists, tight, unexplained_families,
)

FAMILY = Family.of(Jobs(4, [(0, 1), (1, 2, 3), (1,)]))


class ExplainsTest(unittest.TestCase):

    def test_against_what_is_placeable(self):
        lists = few_lists()[::5] + random_lists(91, 25)
        families = few_families()[::6] + [Family.of(jobs) for jobs in lists]
        found = {True: 0, False: 0}
        for jobs in lists:
            placed = grown(jobs)
            for family in families:
                expected = family.size == jobs.size and list(family) == placed
                self.assertIs(explains(family, jobs), expected)
                found[expected] += 1
        self.assertGreater(min(found.values()), 30)

    def test_any_number_of_jobs(self):
        self.assertIs(explains(Family.uniform(2, 1), Jobs(2, [(0, 1), (), ()])), True)
        self.assertIs(explains(Family.uniform(2, 2), Jobs.everyone(2, 7)), True)
        self.assertIs(explains(Family.uniform(2, 2), Jobs(2, [(0,)])), False)
        self.assertIs(explains(FAMILY, lists_of(FAMILY)[1]), True)

    def test_another_size(self):
        for size in range(8):
            for other in range(8):
                self.assertIs(explains(Family.uniform(size, 0), Jobs(other, [()])), size == other)
        self.assertIs(explains(Family(1, [(0,)]), Jobs(2, [(0,)])), False)
        self.assertIs(explains(Family(2, [(0,)]), Jobs(1, [(0,)])), False)

    def test_families_without_an_explanation(self):
        for family in unexplained_families():
            for jobs in (Jobs.everyone(family.size, family.full), Jobs(family.size, [])):
                self.assertIs(explains(family, jobs), False)


class AllTightTest(unittest.TestCase):

    def assert_all(self, function, family, expected):
        rows = sorted(jobs.jobs for jobs in expected)
        many = len(rows)
        for most in (many, many + 1, 400):
            if 1 <= most and many <= most:
                found = function(family, most=most)
                self.assertIsInstance(found, list)
                self.assertTrue(all(isinstance(jobs, Jobs) and jobs.size == family.size for jobs in found))
                self.assertTrue(same_kind([jobs.jobs for jobs in found], rows))

    def assert_too_many(self, function, family, most):
        with self.assertRaises(TooMany) as caught:
            function(family, most=most)
        self.assertTrue(same_kind(caught.exception.limit, most))

    def test_against_all_job_lists(self):
        larger = 0
        for family, explaining in explained_families():
            if family.size < 6 and len(explaining) <= 400:
                self.assert_all(all_tight, family, [Jobs(jobs.size, in_order(jobs.jobs)) for jobs in explaining])
                larger += len(explaining) > 60
        self.assertGreater(larger, 3)

    def test_most_at_the_number_and_below_it(self):
        for family, explaining in explained_families()[::3]:
            many = len(explaining)
            if family.size < 6 and 1 < many:
                for function in (all_tight, all_least):
                    self.assert_too_many(function, family, min(many - 1, 400))
                    self.assert_too_many(function, family, 1)
                if many <= 400:
                    self.assertEqual(len(all_tight(family, most=many)), many)

    def test_most_is_60_by_default(self):
        above = below = 0
        for family, explaining in explained_families():
            if 30 < len(explaining) <= 60 and family.size < 6:
                below += 1
                self.assertEqual(len(all_tight(family)), len(explaining))
                self.assertEqual(all_least(family), all_least(family, most=60))
            elif 60 < len(explaining) and family.size < 6:
                above += 1
                for function in (all_tight, all_least):
                    with self.assertRaises(TooMany) as caught:
                        function(family)
                    self.assertEqual(caught.exception.limit, 60)
        self.assertGreater(min(above, below), 3)

    def test_all_least_against_all_job_lists(self):
        for family, explaining in explained_families():
            if family.size < 5 and len(explaining) <= 100:
                placed = list(family)
                least = [
                    Jobs(jobs.size, in_order(jobs.jobs)) for jobs in explaining
                    if all(grown(fewer) != placed for _, _, fewer in struck_lists(jobs))
                ]
                self.assertTrue(same_kind(
                    [jobs.jobs for jobs in all_least(family, most=len(explaining))], sorted(jobs.jobs for jobs in least),
                ))

    def test_families_of_five_people(self):
        for family in all_families(5)[::9]:
            try:
                found = all_tight(family, most=100)
            except TooMany:
                self.assert_too_many(all_least, family, 100)
                continue
            rows = [jobs.jobs for jobs in found]
            self.assertEqual(rows, sorted(set(rows)))
            self.assertIn(lists_of(family)[1].jobs, rows)
            for jobs in found:
                self.assertEqual(grown(jobs), list(family))
                self.assertEqual((len(jobs), list(jobs.jobs)), (family.full, in_order(jobs.jobs)))
            self.assertEqual(all_least(family, most=100), [jobs for jobs in found if is_least(jobs)])

    def test_fewer_least_ones_than_most_are_too_many_too(self):
        family = Family.of(Jobs(3, [(0, 1, 2), (0, 1, 2)]))
        self.assertEqual([len(all_tight(family)), len(all_least(family))], [7, 3])
        self.assert_too_many(all_least, family, 6)
        self.assert_too_many(all_least, family, 3)
        self.assertEqual(len(all_least(family, most=7)), 3)

    def test_all_orders_of_the_jobs_are_one(self):
        found = all_tight(Family.uniform(2, 2))
        rows = [((0,), (0, 1)), ((0,), (1,)), ((0, 1), (0, 1)), ((1,), (0, 1))]
        self.assertEqual([jobs.jobs for jobs in found], rows)
        self.assertEqual([jobs.jobs for jobs in all_least(Family.uniform(2, 2))], [((0,), (1,))])

    def test_edges(self):
        for function in (all_tight, all_least):
            self.assertEqual(function(Family(0, [()])), [Jobs(0, [])])
            self.assertEqual(function(Family(0, [()]), most=1), [Jobs(0, [])])
            self.assertEqual(function(Family.uniform(5, 0)), [Jobs(5, [])])
            self.assertEqual(function(Family.uniform(5, 1)), [Jobs.everyone(5, 1)])
            self.assertEqual(function(Family(5, [(4,)]), most=1), [Jobs(5, [(4,)])])
            self.assert_too_many(function, Family.uniform(5, 5), 400)
            self.assert_too_many(function, Family.uniform(5, 5), 1)

    def test_most_is_passed_by_keyword(self):
        for function in (all_tight, all_least):
            with self.assertRaises(TypeError):
                function(FAMILY, 60)

    def test_lists_are_new_and_families_stay(self):
        for function in (all_tight, all_least):
            found = function(FAMILY)
            again = list(found)
            found.clear()
            self.assertEqual(function(FAMILY), again)
            self.assertEqual(FAMILY.crews, ((0, 1, 2), (0, 1, 3)))


class BetweenTest(unittest.TestCase):
    """[10]"""

    def test_between_two_explanations(self):
        for family, explaining in explained_families()[::7]:
            for jobs in explaining[::5]:
                upper = filled(jobs, range(len(jobs)))
                rows = [
                    tuple(sorted(set(job) | set(above[::2]))) for job, above in zip(jobs.jobs, upper.jobs)
                ]
                self.assertIs(explains(family, Jobs(family.size, rows)), True)

    def test_below_the_greatest_by_sets_of_jobs(self):
        chance = Random(92)
        found = {True: 0, False: 0}
        families = [family for family, _ in explained_families()[::12]] + [
            family for family in large_families() if lists_of(family)[0] == "jobs"
        ]
        for family in families:
            upper = lists_of(family)[1]
            for likely in (6, 8, 9):
                rows = [tuple(person for person in job if chance.randint(0, 9) < likely) for job in upper.jobs]
                expected = all(
                    family.strength(tuple(
                        person for person in range(family.size)
                        if not any(chosen >> at & 1 and person in rows[at] for at in range(len(rows)))
                    )) <= family.full - chosen.bit_count()
                    for chosen in range(1 << len(rows))
                )
                self.assertIs(explains(family, Jobs(family.size, rows)), expected)
                found[expected] += 1
        self.assertGreater(min(found.values()), 30)


def slow_count(one, other):
    """Return the least sum of people who are in just one job of a pair, over the pairings under equal jobs."""
    above = [filled(one, [at]).jobs[at] for at in range(len(one))]
    goals = [filled(other, [at]).jobs[at] for at in range(len(other))]
    return min(
        sum(len(set(one.jobs[at]) ^ set(other.jobs[to])) for at, to in enumerate(order))
        for order in permutations(range(len(one)))
        if all(above[at] == goals[to] for at, to in enumerate(order))
    )


def distances(start, explaining):
    """Return the dict of the fewest steps from start to all alike tight lists, by rows of jobs in order."""
    known = {jobs.jobs for jobs in explaining}
    found = {tuple(in_order(start.jobs)): 0}
    waiting = list(found)
    for rows in waiting:
        for at, job in enumerate(rows):
            for person in range(start.size):
                changed = tuple(sorted(set(job) ^ {person}))
                others = tuple(in_order(rows[:at] + (changed,) + rows[at + 1:]))
                if others in known and others not in found:
                    found[others] = found[rows] + 1
                    waiting.append(others)
    return found


class StepsTest(unittest.TestCase):

    def assert_steps(self, one, other, fewest):
        before = one.jobs, other.jobs
        found = steps(one, other)
        self.assertIsInstance(found, list)
        self.assertEqual(found[0], one)
        self.assertEqual(in_order(found[-1].jobs), in_order(other.jobs))
        self.assertEqual(len(found) - 1, fewest)
        placed = grown(one)
        for left, right in zip(found, found[1:]):
            self.assertIsInstance(right, Jobs)
            self.assertEqual(right.size, one.size)
            self.assertEqual(grown(right), placed)
            changed = [set(a) ^ set(b) for a, b in zip(left.jobs, right.jobs)]
            self.assertEqual(len(left), len(right))
            self.assertEqual(sum(map(len, changed)), 1)
        self.assertEqual((one.jobs, other.jobs), before)

    def test_as_short_as_possible(self):
        chance = Random(93)
        counts = 0
        for family, explaining in explained_families()[::6]:
            rows = [Jobs(jobs.size, in_order(jobs.jobs)) for jobs in explaining]
            for start in chance.sample(rows, min(3, len(rows))):
                fewest = distances(start, rows)
                for goal in chance.sample(rows, min(6, len(rows))):
                    one = Jobs(start.size, chance.sample(start.jobs, len(start)))
                    other = Jobs(goal.size, chance.sample(goal.jobs, len(goal)))
                    self.assert_steps(one, other, fewest[goal.jobs])
                    counts += 1
        self.assertGreater(counts, 800)

    def test_larger_lists(self):
        for one in random_lists(94, 40):
            one = tight(one)
            if one.size > 4 and len(one) < 7:
                upper = greatest(one)
                less = filled(one, [0]) if len(one) else one
                for other in (upper, Jobs(one.size, one.jobs[::-1]), less, Jobs(one.size, upper.jobs[::-1])):
                    self.assert_steps(one, other, slow_count(one, other))
                    self.assert_steps(other, one, slow_count(one, other))

    def test_seven_jobs(self):
        one = Jobs(7, [(person,) for person in range(7)])
        self.assert_steps(one, Jobs(7, one.jobs[::-1]), 0)
        self.assert_steps(one, Jobs.everyone(7, 7), 42)
        self.assert_steps(Jobs.everyone(7, 7), one, 42)
        other = Jobs(7, [(person, (person + 1) % 7) if person < 6 else (0, 6) for person in (3, 1, 6, 0, 2, 5, 4)])
        self.assert_steps(one, other, 7)

    def test_nothing_to_do(self):
        for jobs in random_lists(95, 15):
            jobs = tight(jobs)
            self.assertEqual(steps(jobs, jobs), [jobs])
            self.assertEqual(steps(jobs, Jobs(jobs.size, jobs.jobs[::-1])), [jobs])
        self.assertEqual(steps(Jobs(0, []), Jobs(0, [])), [Jobs(0, [])])
        self.assertEqual(steps(Jobs(7, []), Jobs(7, [])), [Jobs(7, [])])

    def test_the_jobs_of_other_in_another_order(self):
        one, other = Jobs(3, [(0,), (0, 1, 2)]), Jobs(3, [(1, 2), (0,)])
        self.assert_steps(one, other, 1)
        one, other = Jobs(3, [(0, 1, 2), (0,)]), Jobs(3, [(0,), (1, 2)])
        self.assert_steps(one, other, 1)

    def test_unlike(self):
        for one, other in ((Jobs(0, []), Jobs(1, [])), (Jobs(3, [(0,)]), Jobs(2, [(0,)])), (Jobs(2, [(1,)]), Jobs(3, []))):
            with self.assertRaises(Unlike):
                steps(one, other)
            with self.assertRaises(Unlike):
                steps(other, one)

    def test_not_alike(self):
        rows = [tight(jobs) for jobs in job_lists(3, 2)[::3] + random_lists(96, 25)]
        counts = 0
        for one in rows:
            for other in rows:
                unlike = slow_apart(one, other) if one.size == other.size else []
                if unlike:
                    counts += 1
                    with self.assertRaises(NotAlike) as caught:
                        steps(one, other)
                    self.assertTrue(same_kind(caught.exception.group, unlike[0]))
        self.assertGreater(counts, 100)

    def test_the_list_is_new(self):
        one, other = Jobs(2, [(0,), (1,)]), Jobs.everyone(2, 2)
        found = steps(one, other)
        found.clear()
        self.assertEqual(len(steps(one, other)), 3)


class HelperTest(unittest.TestCase):

    def test_each_tight_list_lies_below_the_greatest(self):
        for family, explaining in explained_families()[::25]:
            for jobs in explaining[::6]:
                self.assertTrue(lies_below(jobs, lists_of(family)[1]))


if __name__ == "__main__":
    unittest.main()
