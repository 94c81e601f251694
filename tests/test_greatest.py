"""[6], [50]: the greatest job list, the places of the jobs in it, and what tells two job lists apart."""

import unittest

from crewlists.errors import Unlike
from crewlists.greatest import greatest, lost, places, same
from crewlists.jobs import Jobs
from helpers import (
    all_groups, explained_families, few_lists, filled, grown, in_order, job_lists, random_lists, same_kind,
    slow_greatest, slow_placeable, tight,
)

JOBS = Jobs(4, [(0, 1), (1, 2, 3), (1,)])
# Seven people and seven jobs, with empty, equal and full ones.
LARGE = [
    Jobs(7, [(0, 1, 2, 3, 4, 5, 6)] * 7),
    Jobs(7, [()] * 7),
    Jobs(7, [(0, 1, 2, 3, 4, 5, 6), (), (2, 4), (2, 4), (2, 4), (0, 1, 2, 3, 4, 5, 6), (6,)]),
    Jobs(7, [(5, 6), (4, 5), (3, 4), (2, 3), (1, 2), (0, 1), (0, 6)]),
    Jobs(7, [(3,), (1, 3), (3,), (0, 1, 3), (1,), (2, 5, 6), (2, 5)]),
    Jobs(6, [(0, 1), (0, 1), (0, 1), (2, 3, 4, 5), (2, 3)]),
]


def lists():
    """Return job lists of all sizes and numbers of jobs."""
    return few_lists() + LARGE + random_lists(51, 60) + random_lists(52, 30, 5)


def tight_lists():
    """Return job lists with as many jobs as their full strengths."""
    return [jobs for jobs in few_lists() if len(jobs) == len(tight(jobs))] + [tight(jobs) for jobs in lists()[200:]]


class GreatestTest(unittest.TestCase):

    def test_against_putting_people_in(self):
        for jobs in lists():
            self.assertTrue(same_kind(greatest(jobs).jobs, slow_greatest(jobs).jobs))
            self.assertEqual(greatest(jobs, many=None), slow_greatest(jobs))
            self.assertEqual(greatest(jobs).size, jobs.size)

    def test_every_number_of_jobs(self):
        for jobs in few_lists()[::3] + LARGE + random_lists(53, 25):
            for many in range(len(tight(jobs)), 8):
                found = greatest(jobs, many=many)
                self.assertEqual(len(found), many)
                self.assertEqual(found, slow_greatest(jobs, many))

    def test_it_is_a_new_job_list_that_is_alike(self):
        for jobs in lists():
            before = jobs.jobs
            found = greatest(jobs)
            self.assertIsInstance(found, Jobs)
            self.assertEqual(grown(found), grown(jobs))
            self.assertEqual(jobs.jobs, before)

    def test_jobs_in_order(self):
        jobs = Jobs(5, [(0, 1, 2, 3, 4), (4,), (2, 3), (0, 1)])
        self.assertEqual(greatest(jobs).jobs, ((4,),) + ((0, 1, 2, 3, 4),) * 3)
        jobs = Jobs(6, [(3, 4, 5), (0, 1, 2), (3, 5), (1, 2)])
        self.assertEqual(greatest(jobs).jobs, ((0, 1, 2), (0, 1, 2), (3, 4, 5), (3, 4, 5)))
        self.assertEqual(greatest(Jobs(3, [(2,), (0, 1)])).jobs, ((2,), (0, 1, 2)))

    def test_further_jobs_for_all_who_are_needed(self):
        # 2 and 3 are needed; the further jobs stand among the others, not behind them.
        jobs = Jobs(5, [(0, 1, 4), (2,), (3,), (2,), ()])
        self.assertEqual(greatest(jobs, many=3).jobs, ((2, 3), (2, 3), (0, 1, 2, 3, 4)))
        self.assertEqual(greatest(jobs, many=5).jobs, ((2, 3),) * 4 + ((0, 1, 2, 3, 4),))
        self.assertEqual(greatest(Jobs(3, [(0, 1)]), many=4).jobs, ((), (), (), (0, 1)))
        self.assertEqual(greatest(JOBS, many=4).jobs, ((0, 1), (0, 1), (0, 1), (0, 1, 2, 3)))

    def test_edges(self):
        self.assertEqual(greatest(Jobs(0, [])), Jobs(0, []))
        self.assertEqual(greatest(Jobs(0, [()] * 7)), Jobs(0, []))
        self.assertEqual(greatest(Jobs(0, []), many=7), Jobs(0, [()] * 7))
        self.assertEqual(greatest(Jobs(7, [])), Jobs(7, []))
        self.assertEqual(greatest(Jobs(7, []), many=7), Jobs(7, [()] * 7))
        self.assertEqual(greatest(Jobs.everyone(7, 7)), Jobs.everyone(7, 7))
        self.assertEqual(greatest(Jobs.everyone(2, 7)), Jobs.everyone(2, 2))
        self.assertEqual(greatest(Jobs.everyone(2, 2), many=7), Jobs.everyone(2, 7))

    def test_many_is_passed_by_keyword(self):
        with self.assertRaises(TypeError):
            greatest(JOBS, 3)

    def test_all_tight_lists_of_a_family_have_the_same(self):
        for family, explaining in explained_families()[::9]:
            self.assertEqual(len({greatest(jobs).jobs for jobs in explaining}), 1)


class PlacesTest(unittest.TestCase):

    def slow_places(self, jobs):
        upper = slow_greatest(jobs).jobs
        found = []
        for at in range(len(jobs)):
            above = filled(jobs, [at]).jobs[at]
            found.append(min(to for to, job in enumerate(upper) if job == above and to not in found))
        return tuple(found)

    def test_against_putting_people_into_one_job(self):
        for jobs in tight_lists():
            self.assertTrue(same_kind(places(jobs), self.slow_places(jobs)))

    def test_each_index_once_and_each_job_below_its_place(self):
        for jobs in tight_lists():
            found = places(jobs)
            self.assertEqual(sorted(found), list(range(len(jobs))))
            for job, at in zip(jobs.jobs, found):
                self.assertLessEqual(set(job), set(greatest(jobs)[at]))

    def test_equal_jobs(self):
        self.assertEqual(places(Jobs.everyone(3, 3)), (0, 1, 2))
        self.assertEqual(places(Jobs(3, [(2,), (1,), (0,)])), (0, 1, 2))
        self.assertEqual(places(Jobs(5, [(2, 3, 4), (0, 1), (2, 3), (0, 1)])), (2, 0, 3, 1))
        self.assertEqual(places(Jobs(4, [(1, 2, 3), (1,), (0,)])), (2, 0, 1))

    def test_edges(self):
        self.assertEqual(places(Jobs(0, [])), ())
        self.assertEqual(places(Jobs(7, [])), ())
        self.assertEqual(places(Jobs(1, [(0,)])), (0,))
        self.assertEqual(places(Jobs.everyone(7, 7)), tuple(range(7)))


class PartingTest(unittest.TestCase):
    """`lost` and `same`"""

    @classmethod
    def setUpClass(cls):
        rows = job_lists(2, 0) + job_lists(2, 1) + job_lists(2, 2) + job_lists(3, 2)[::4] + job_lists(3, 3)[::11]
        rows += LARGE + random_lists(54, 45)
        rows += [Jobs(jobs.size, jobs.jobs[::-1]) for jobs in rows[::3]] + [greatest(jobs) for jobs in rows[::4]]
        cls.pairs = [(one, other) for one in rows for other in rows]

    def test_against_a_slow_search(self):
        counts = {True: 0, False: 0}
        placed = {id(one): grown(one) for one, _ in self.pairs}
        for one, other in self.pairs:
            if one.size == other.size:
                gone = [group for group in placed[id(one)] if group not in set(placed[id(other)])]
                self.assertTrue(same_kind(lost(one, other), gone[0] if gone else None))
                unlike = in_order(set(placed[id(one)]) ^ set(placed[id(other)]))
                found = same(one, other)
                self.assertTrue(same_kind(found, ("apart", unlike[0]) if unlike else ("same", slow_greatest(one))))
                counts[found[0] == "same"] += 1
        self.assertGreater(min(counts.values()), 200)

    def test_unlike(self):
        for one, other in self.pairs:
            if one.size != other.size:
                for function in (lost, same):
                    with self.assertRaises(Unlike):
                        function(one, other)

    def test_unlike_also_without_jobs(self):
        for function in (lost, same):
            for one, other in ((Jobs(0, []), Jobs(1, [])), (Jobs(7, [()]), Jobs(6, [()]))):
                with self.assertRaises(Unlike):
                    function(one, other)
                with self.assertRaises(Unlike):
                    function(other, one)

    def test_both_orders(self):
        one, other = Jobs(3, [(0,), (1, 2)]), Jobs(3, [(0, 1, 2)])
        self.assertEqual([lost(one, other), lost(other, one)], [(0, 1), None])
        self.assertEqual([same(one, other), same(other, one)], [("apart", (0, 1))] * 2)
        one, other = Jobs(3, [(0,), (1,)]), Jobs(3, [(0,), (2,)])
        self.assertEqual([lost(one, other), lost(other, one)], [(1,), (2,)])
        self.assertEqual([same(one, other), same(other, one)], [("apart", (1,))] * 2)

    def test_the_shorter_group_comes_first(self):
        one, other = Jobs(3, [(0,), (1,)]), Jobs(3, [(0, 1, 2)])
        self.assertEqual([lost(one, other), lost(other, one)], [(0, 1), (2,)])
        self.assertEqual([same(one, other), same(other, one)], [("apart", (2,))] * 2)

    def test_alike_lists_with_other_numbers_of_jobs(self):
        one, other = Jobs(2, [(0, 1)] * 7), Jobs(2, [(0,), (1,)])
        self.assertEqual([same(one, other), same(other, one)], [("same", Jobs.everyone(2, 2))] * 2)
        self.assertEqual([lost(one, other), lost(other, one)], [None, None])

    def test_arguments_stay(self):
        for one, other in self.pairs[::50]:
            if one.size == other.size:
                before = one.jobs, other.jobs
                lost(one, other), same(one, other)
                self.assertEqual((one.jobs, other.jobs), before)


class ExampleTest(unittest.TestCase):

    def test_the_example(self):
        self.assertEqual([greatest(JOBS).jobs, places(JOBS)], [((0, 1), (0, 1), (0, 1, 2, 3)), (0, 2, 1)])
        self.assertEqual(same(JOBS, Jobs(4, [(0,), (1,), (2, 3)]))[0], "same")
        self.assertEqual(same(JOBS, Jobs(4, [(0, 1), (2, 3)])), ("apart", (0, 1)))

    def test_the_helper_grows_what_is_placeable(self):
        for jobs in few_lists() + random_lists(55, 20, 5):
            self.assertEqual(grown(jobs), slow_placeable(jobs))
            self.assertEqual(in_order(all_groups(jobs.size)), all_groups(jobs.size))


if __name__ == "__main__":
    unittest.main()
