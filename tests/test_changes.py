"""[9], [52]: putting people into jobs and striking them."""

import unittest

from crewlists.changes import is_least, least, least_sizes, may_put, may_strike
from crewlists.errors import NotExplained
from crewlists.family import Family
from crewlists.jobs import Jobs
from crewlists.reasons import lists_of
from helpers import (
    explained_families, few_lists, grown, job_lists, large_families, minus, parts_of, random_lists, same_kind,
    slow_greatest, struck_lists, tight, unexplained_families,
)

JOBS = Jobs(4, [(0, 1), (1, 2, 3), (1,)])
FAMILY = Family.of(JOBS)


def lists():
    """Return job lists of all sizes and numbers of jobs, not just tight ones."""
    large = [Jobs.everyone(7, 7), Jobs.everyone(7, 3), Jobs(7, [()] * 7), Jobs(7, [(6,), (0, 1, 2), (0, 1), (2, 3)])]
    return few_lists()[::2] + job_lists(2, 4) + large + random_lists(71, 40)


def slow_crews(jobs):
    """Return the longest placeable groups in order."""
    placed = grown(jobs)
    return [group for group in placed if len(group) == len(placed[-1])]


class MayPutTest(unittest.TestCase):

    def assert_put(self, jobs, at, person, clashes):
        more = set(grown(jobs.put(at, person)))
        clash = [group for group in clashes if group in more]
        self.assertTrue(same_kind(may_put(jobs, at, person), clash[0] if clash else None))
        # Nobody is barred but by such a clash.
        self.assertEqual(may_put(jobs, at, person) is None, sorted(more) == sorted(grown(jobs)))

    def test_each_person_into_each_job(self):
        for jobs in lists():
            placed = set(grown(jobs))
            clashes = [
                group for group in grown(Jobs.everyone(jobs.size, jobs.size))
                if group not in placed and all(part in placed for part in parts_of(group)[:-1])
            ]
            for at in range(len(jobs)):
                for person in range(jobs.size):
                    self.assert_put(jobs, at, person, clashes)

    def test_who_can_do_the_job_already(self):
        for jobs in lists()[::3]:
            for at, job in enumerate(jobs.jobs):
                for person in job:
                    self.assertIsNone(may_put(jobs, at, person))

    def test_the_first_clash(self):
        # With 0 in the empty job (0, 1) and (0, 2) can work, and (0, 1, 2) cannot.
        jobs = Jobs(3, [(0, 1, 2), ()])
        self.assertEqual(may_put(jobs, 1, 0), (0, 1))
        self.assertEqual(may_put(jobs, 1, 2), (0, 2))
        # The least one in order, not the longest one or the one with the least first member.
        jobs = Jobs(5, [(0, 1, 2), (0, 1, 2), (3, 4), ()])
        self.assertEqual(may_put(jobs, 3, 3), (3, 4))
        self.assertEqual(may_put(jobs, 2, 1), (0, 1, 2))
        self.assertEqual(may_put(Jobs(2, []) + Jobs(2, [()]), 0, 1), (1,))

    def test_edges(self):
        self.assertIsNone(may_put(Jobs.everyone(7, 7), 6, 6))
        self.assertIsNone(may_put(Jobs(1, [(0,), ()]), 1, 0))
        self.assertEqual(may_put(Jobs(7, [()] * 7), 6, 6), (6,))


class MayStrikeTest(unittest.TestCase):

    def test_each_person_from_each_job(self):
        for jobs in lists():
            crews = slow_crews(jobs)
            for at, person, fewer in struck_lists(jobs):
                kept = set(grown(fewer))
                gone = [crew for crew in crews if crew not in kept]
                self.assertTrue(same_kind(may_strike(jobs, at, person), gone[0] if gone else None))
                self.assertEqual(gone == [], kept == set(grown(jobs)))

    def test_who_cannot_do_the_job_anyway(self):
        for jobs in lists()[::3]:
            for at, job in enumerate(jobs.jobs):
                for person in minus(range(jobs.size), job):
                    self.assertIsNone(may_strike(jobs, at, person))

    def test_a_crew_and_not_a_smaller_group(self):
        # Without 1 in job 1, 1 alone cannot work either, but no crew has one member.
        jobs = Jobs(3, [(0,), (1, 2)])
        self.assertEqual(may_strike(jobs, 1, 1), (0, 1))
        self.assertEqual(may_strike(jobs, 0, 0), (0, 1))
        self.assertEqual(may_strike(jobs, 1, 2), (0, 2))

    def test_edges(self):
        self.assertEqual(may_strike(Jobs(1, [(0,)]), 0, 0), (0,))
        self.assertIsNone(may_strike(Jobs(1, [(0,), (0,)]), 0, 0))
        self.assertIsNone(may_strike(Jobs.everyone(7, 7), 0, 0))


class LeastTest(unittest.TestCase):

    def slow_least(self, jobs):
        placed = grown(jobs)
        rows = list(jobs.jobs)
        for at, job in enumerate(jobs.jobs):
            for person in job:
                kept = rows[at]
                rows[at] = minus(kept, (person,))
                if grown(Jobs(jobs.size, rows)) != placed:
                    rows[at] = kept
        return Jobs(jobs.size, rows)

    def test_against_striking_one_by_one(self):
        for jobs in lists():
            before = jobs.jobs
            found = least(jobs)
            self.assertTrue(same_kind(found.jobs, self.slow_least(jobs).jobs))
            self.assertEqual((found.size, jobs.jobs), (jobs.size, before))

    def test_nobody_else_may_be_struck(self):
        for jobs in lists():
            self.assertIs(is_least(least(jobs)), True)
            self.assertEqual(least(least(jobs)), least(jobs))

    def test_jobs_stay_in_their_places(self):
        self.assertEqual(least(Jobs(2, [(), (0, 1), (), (0,)])).jobs, ((), (1,), (), (0,)))
        self.assertEqual(least(Jobs(2, [(1,), (0,)])).jobs, ((1,), (0,)))
        self.assertEqual(least(Jobs(1, [(0,), (0,), (0,)])).jobs, ((), (), (0,)))
        self.assertEqual(least(Jobs.everyone(3, 2)).jobs, ((1, 2), (0, 2)))

    def test_is_least(self):
        found = {True: 0, False: 0}
        for jobs in lists():
            placed = grown(jobs)
            expected = all(grown(fewer) != placed for _, _, fewer in struck_lists(jobs))
            self.assertIs(is_least(jobs), expected)
            found[expected] += 1
        self.assertGreater(min(found.values()), 20)

    def test_edges(self):
        self.assertEqual(least(Jobs(0, [()])), Jobs(0, [()]))
        self.assertEqual(least(Jobs(7, [])), Jobs(7, []))
        self.assertIs(is_least(Jobs(0, [])), True)
        self.assertIs(is_least(Jobs(7, [()] * 7)), True)
        self.assertIs(is_least(Jobs.everyone(7, 7)), False)
        self.assertIs(is_least(Jobs(1, [(0,), (0,)])), False)
        self.assertEqual(sum(map(len, least(Jobs.everyone(7, 7)))), 7)


class LeastSizesTest(unittest.TestCase):

    def assert_sizes(self, family, jobs):
        """Compare with a least tight explanation; sizes below equal greater jobs are equal."""
        upper = slow_greatest(jobs).jobs
        sizes = least_sizes(family)
        self.assertIsInstance(sizes, tuple)
        self.assertEqual(len(sizes), len(upper))
        pairs = []
        for at, job in enumerate(jobs.jobs):
            above = [person for person in range(jobs.size) if grown(jobs.put(at, person)) == grown(jobs)]
            pairs.append((tuple(above), len(job)))
        self.assertEqual(sorted(pairs), sorted(zip(upper, sizes)))

    def test_against_all_least_explanations(self):
        for family, explaining in explained_families()[::5]:
            placed = set(family)
            for jobs in explaining[::2]:
                if all(set(grown(fewer)) != placed for _, _, fewer in struck_lists(jobs)):
                    self.assert_sizes(family, jobs)

    def test_larger_families(self):
        for jobs in random_lists(72, 40):
            if jobs.size > 4:
                self.assert_sizes(Family.of(jobs), least(tight(jobs)))

    def test_in_the_order_of_the_greatest(self):
        family = Family.of(Jobs(7, [(0, 1), (1, 2, 3), (2, 3), (4, 5, 6), (4, 5, 6)]))
        upper = lists_of(family)[1].jobs
        expected = [len(job) - 5 + 1 + family.strength(minus(range(7), job)) for job in upper]
        self.assertTrue(same_kind(least_sizes(family), tuple(expected)))

    def test_edges(self):
        self.assertEqual(least_sizes(Family(0, [()])), ())
        self.assertEqual(least_sizes(Family.uniform(7, 0)), ())
        self.assertEqual(least_sizes(Family.uniform(7, 7)), (1,) * 7)
        self.assertEqual(least_sizes(Family.uniform(7, 1)), (7,))
        self.assertEqual(least_sizes(Family.uniform(7, 3)), (5,) * 3)

    def test_without_an_explanation(self):
        for family in unexplained_families():
            with self.assertRaises(NotExplained) as caught:
                least_sizes(family)
            self.assertTrue(same_kind(caught.exception.answer, lists_of(family)))

    def test_families_stay(self):
        for family in large_families():
            crews = family.crews
            if lists_of(family)[0] == "jobs":
                least_sizes(family)
            self.assertEqual(family.crews, crews)


class ExampleTest(unittest.TestCase):

    def test_the_example(self):
        found = [may_put(JOBS, 0, 2), may_put(JOBS, 2, 0), may_strike(JOBS, 1, 1), may_strike(JOBS, 1, 3)]
        self.assertEqual(found, [(2, 3), None, None, (0, 1, 3)])
        self.assertEqual([least(JOBS).jobs, least_sizes(FAMILY)], [((0,), (2, 3), (1,)), (1, 1, 2)])


if __name__ == "__main__":
    unittest.main()
