"""[8], [51]: which jobs are enough, which can be spared, and who does a job alone."""

import unittest

from crewlists.errors import NotExplained
from crewlists.family import Family
from crewlists.jobs import Jobs
from crewlists.needs import alone, enough, least_enough, spare
from crewlists.reasons import lists_of
from helpers import (
    all_groups, explained_families, few_lists, grown, job_lists, large_families, random_lists, same_kind, tight,
    unexplained_families,
)

JOBS = Jobs(4, [(0, 1), (1, 2, 3), (1,)])
LARGE = [
    Jobs(7, [(0, 1, 2, 3, 4, 5, 6)] * 7), Jobs(7, [()] * 7), Jobs(7, [(3,)] * 7), Jobs(0, [()] * 7),
    Jobs(7, [(0, 1), (1, 2), (2, 3), (), (2, 3), (0, 1), (5,)]), Jobs(7, []), Jobs(0, []),
]


def lists():
    """Return job lists of all sizes and numbers of jobs."""
    return few_lists()[::2] + job_lists(2, 4) + LARGE + random_lists(61, 50)


def slow_enough(jobs):
    """Return the list of all sets of indexes that keep all groups, in order."""
    placed = grown(jobs)
    return [
        indexes for indexes in all_groups(len(jobs))
        if grown(Jobs(jobs.size, [jobs.jobs[at] for at in indexes])) == placed
    ]


class EnoughTest(unittest.TestCase):

    def test_every_set_of_indexes(self):
        for jobs in lists():
            keep = set(slow_enough(jobs))
            for indexes in all_groups(len(jobs)):
                self.assertIs(enough(jobs, indexes), indexes in keep)

    def test_the_empty_set(self):
        self.assertIs(enough(Jobs(0, []), ()), True)
        self.assertIs(enough(Jobs(7, []), ()), True)
        self.assertIs(enough(Jobs(7, [()] * 7), ()), True)
        self.assertIs(enough(Jobs(1, [(0,)]), ()), False)

    def test_all_jobs_are_enough(self):
        for jobs in lists():
            self.assertIs(enough(jobs, tuple(range(len(jobs)))), True)


class LeastEnoughTest(unittest.TestCase):

    def test_against_all_sets_of_indexes(self):
        for jobs in lists():
            keep = slow_enough(jobs)
            least = [
                indexes for indexes in keep
                if not any(set(other) < set(indexes) for other in keep)
            ]
            self.assertTrue(same_kind(least_enough(jobs), least))
            self.assertEqual(least, sorted(least))

    def test_none_can_be_left_out(self):
        for jobs in lists():
            for indexes in least_enough(jobs):
                self.assertIs(enough(jobs, indexes), True)
                for at in range(len(indexes)):
                    self.assertIs(enough(jobs, indexes[:at] + indexes[at + 1:]), False)

    def test_as_many_as_the_full_strength(self):
        for jobs in lists():
            self.assertEqual({len(indexes) for indexes in least_enough(jobs)}, {len(tight(jobs))})

    def test_edges(self):
        self.assertEqual(least_enough(Jobs(0, [])), [()])
        self.assertEqual(least_enough(Jobs(0, [()] * 7)), [()])
        self.assertEqual(least_enough(Jobs(7, [])), [()])
        self.assertEqual(least_enough(Jobs(1, [(0,), (), (0,)])), [(0,), (2,)])
        self.assertEqual(least_enough(Jobs.everyone(7, 7)), [(0, 1, 2, 3, 4, 5, 6)])
        self.assertEqual(least_enough(JOBS), [(0, 1, 2)])

    def test_the_list_is_new(self):
        for jobs in lists()[::5]:
            found = least_enough(jobs)
            found.clear()
            self.assertNotEqual(least_enough(jobs), [])


class SpareTest(unittest.TestCase):

    def test_against_all_sets_of_indexes(self):
        for jobs in lists():
            keep = set(slow_enough(jobs))
            everything = tuple(range(len(jobs)))
            expected = tuple(at for at in everything if everything[:at] + everything[at + 1:] in keep)
            self.assertTrue(same_kind(spare(jobs), expected))

    def test_each_alone_but_not_all_at_once(self):
        jobs = Jobs(2, [(0,), (0,), (), (1,)])
        self.assertEqual(spare(jobs), (0, 1, 2))
        self.assertIs(enough(jobs, (3,)), False)

    def test_edges(self):
        self.assertEqual(spare(Jobs(0, [])), ())
        self.assertEqual(spare(Jobs(0, [()])), (0,))
        self.assertEqual(spare(Jobs.everyone(6, 7)), tuple(range(7)))
        self.assertEqual(spare(Jobs.everyone(7, 7)), ())
        self.assertEqual(spare(JOBS), ())


class AloneTest(unittest.TestCase):

    def test_against_all_tight_explanations(self):
        words = {"always": 0, "open": 0, "never": 0}
        for family, explaining in explained_families():
            for person in range(family.size):
                having = sum((person,) in jobs.jobs for jobs in explaining)
                if having == 0:
                    word = "never"
                elif having == len(explaining):
                    word = "always"
                else:
                    word = "open"
                self.assertEqual(alone(family, person), word)
                words[word] += 1
        self.assertGreater(min(words.values()), 20)

    def test_each_word(self):
        self.assertEqual([alone(Family.of(JOBS), person) for person in range(4)], ["open", "open", "never", "never"])
        self.assertEqual([alone(Family(3, [(0, 1), (0, 2)]), person) for person in range(3)], ["always"] + ["never"] * 2)
        self.assertEqual(alone(Family.uniform(1, 1), 0), "always")
        self.assertEqual(alone(Family.uniform(1, 0), 0), "never")
        self.assertEqual([alone(Family.uniform(7, 7), person) for person in (0, 6)], ["open"] * 2)
        self.assertEqual([alone(Family.uniform(7, 1), person) for person in (0, 6)], ["never"] * 2)

    def test_larger_families(self):
        for family in large_families():
            if lists_of(family)[0] == "jobs":
                having = [person for person in range(family.size) if all(person in crew for crew in family.crews)]
                for person in range(family.size):
                    word = "never" if person not in having else ("always" if len(having) == 1 else "open")
                    self.assertEqual(alone(family, person), word)

    def test_without_an_explanation(self):
        for family in unexplained_families():
            for person in range(family.size):
                with self.assertRaises(NotExplained) as caught:
                    alone(family, person)
                self.assertTrue(same_kind(caught.exception.answer, lists_of(family)))


class ArgumentsTest(unittest.TestCase):

    def test_they_stay(self):
        for jobs in lists()[::4]:
            before = jobs.size, jobs.jobs
            family = Family.of(jobs)
            crews = family.crews
            enough(jobs, tuple(range(len(jobs)))), least_enough(jobs), spare(jobs)
            [alone(family, person) for person in range(jobs.size)]
            self.assertEqual((jobs.size, jobs.jobs), before)
            self.assertEqual(family.crews, crews)


if __name__ == "__main__":
    unittest.main()
