"""[61]: how few jobs a person can do, and whether two people share a job."""

import unittest
from itertools import combinations, product

from crewlists.errors import NotExplained
from crewlists.family import Family
from crewlists.jobs import Jobs
from crewlists.reasons import lists_of
from crewlists.sharing import fewest_jobs, share
from helpers import (
    all_families, explained_families, grown, large_families, minus, parts_of, random_lists, same_kind,
    unexplained_families,
)

FAMILY = Family.of(Jobs(4, [(0, 1), (1, 2, 3), (1,)]))


def families():
    """Return families with an explanation, of all sizes."""
    found = [family for size in range(4) for family in all_families(size)] + all_families(4)[::6]
    found += all_families(5)[::40] + [Family.of(jobs) for jobs in random_lists(101, 20)]
    return found + [family for family in large_families() if lists_of(family)[0] == "jobs"][::3]


def struck(jobs, pairs):
    """Return the Jobs without the people in the jobs of pairs (index, person)."""
    rows = [tuple(person for person in job if (at, person) not in pairs) for at, job in enumerate(jobs.jobs)]
    return Jobs(jobs.size, rows)


class FewestJobsTest(unittest.TestCase):

    def test_against_all_sets_of_indexes(self):
        for family in families():
            upper = lists_of(family)[1]
            everything = tuple(range(len(upper)))
            for person in range(family.size):
                right = [
                    indexes for indexes in parts_of(everything)
                    if grown(struck(upper, [(at, person) for at in minus(everything, indexes)])) == list(family)
                ]
                self.assertTrue(same_kind(fewest_jobs(family, person), right[0]))

    def test_the_least_number_in_a_tight_explanation(self):
        for family, explaining in explained_families()[::7]:
            for person in range(family.size):
                fewest = min(sum(person in job for job in jobs.jobs) for jobs in explaining)
                self.assertEqual(len(fewest_jobs(family, person)), fewest)

    def test_idle_people(self):
        self.assertEqual(fewest_jobs(Family.uniform(1, 0), 0), ())
        self.assertEqual(fewest_jobs(Family.uniform(7, 0), 6), ())
        self.assertEqual(fewest_jobs(Family(3, [(0, 2)]), 1), ())

    def test_the_first_of_the_shortest(self):
        self.assertEqual([fewest_jobs(FAMILY, person) for person in range(4)], [(0,), (0,), (2,), (2,)])
        self.assertEqual([fewest_jobs(Family.uniform(7, 7), person) for person in range(7)], [(0,)] * 7)
        self.assertEqual([fewest_jobs(Family.uniform(3, 2), person) for person in range(3)], [(0,)] * 3)

    def test_without_an_explanation(self):
        for family in unexplained_families():
            for person in range(family.size):
                with self.assertRaises(NotExplained) as caught:
                    fewest_jobs(family, person)
                self.assertTrue(same_kind(caught.exception.answer, lists_of(family)))


class ShareTest(unittest.TestCase):

    def slow_rows(self, family, one, other):
        """Return the tuples (choice, first crew that is lost, None if none is) for all choices, in order."""
        upper = lists_of(family)[1]
        having = [at for at, job in enumerate(upper.jobs) if {one, other} <= set(job)]
        found = []
        for choice in product(sorted((one, other)), repeat=len(having)):
            kept = set(grown(struck(upper, list(zip(having, choice)))))
            gone = [crew for crew in family.crews if crew not in kept]
            found.append((choice, gone[0] if gone else None))
        return found

    def assert_share(self, family, one, other):
        rows = self.slow_rows(family, one, other)
        found = share(family, one, other)
        self.assertIsInstance(found, tuple)
        if len(rows[0][0]) == 0:
            self.assertTrue(same_kind(found, ("never",)))
        elif any(crew is None for _, crew in rows):
            self.assertEqual((len(found), found[0]), (2, "open"))
            self.assert_without(family, found[1], one, other)
        else:
            self.assertTrue(same_kind(found, ("always", rows)))
        return found[0]

    def assert_without(self, family, jobs, one, other):
        self.assertIsInstance(jobs, Jobs)
        self.assertEqual((jobs.size, len(jobs)), (family.size, family.full))
        self.assertEqual(grown(jobs), list(family))
        self.assertFalse(any({one, other} <= set(job) for job in jobs.jobs))

    def test_each_two_people_in_both_orders(self):
        words = {"never": 0, "open": 0, "always": 0}
        for family in families():
            for one, other in combinations(range(family.size), 2):
                word = self.assert_share(family, one, other)
                self.assertEqual(self.assert_share(family, other, one), word)
                words[word] += 1
        self.assertGreater(min(words.values()), 20)

    def test_against_all_tight_explanations(self):
        for family, explaining in explained_families()[::7]:
            for one, other in combinations(range(family.size), 2):
                having = sum(any({one, other} <= set(job) for job in jobs.jobs) for jobs in explaining)
                word = share(family, one, other)[0]
                self.assertEqual(word == "never", having == 0)
                self.assertEqual(word == "always", having == len(explaining))
                self.assertIn(word, ("never", "open", "always"))

    def test_each_word(self):
        self.assertEqual(share(FAMILY, 0, 1)[0], "open")
        self.assertEqual(share(FAMILY, 2, 3), ("always", [((2,), (0, 1, 2)), ((3,), (0, 1, 3))]))
        self.assertEqual(share(FAMILY, 3, 2), ("always", [((2,), (0, 1, 2)), ((3,), (0, 1, 3))]))
        self.assertEqual(share(FAMILY, 0, 2)[0], "open")
        self.assertEqual(share(Family(3, [(0, 1)]), 0, 2), ("never",))
        self.assertEqual(share(Family.uniform(7, 0), 6, 5), ("never",))

    def test_rows_of_more_than_one_job(self):
        everyone = (0, 1, 2, 3, 4)
        family = Family.of(Jobs(5, [everyone, (0, 2), everyone]))
        rows = [
            ((0, 0, 0), (0, 1, 2)), ((0, 0, 2), (0, 1, 3)), ((0, 2, 0), (0, 1, 3)), ((0, 2, 2), (0, 1, 3)),
            ((2, 0, 0), (1, 2, 3)), ((2, 0, 2), (1, 2, 3)), ((2, 2, 0), (1, 2, 3)), ((2, 2, 2), (0, 1, 2)),
        ]
        self.assertEqual(share(family, 0, 2), ("always", rows))
        self.assertEqual(share(family, 2, 0), ("always", rows))

    def test_rows_are_new(self):
        found = share(FAMILY, 2, 3)
        found[1].clear()
        self.assertEqual(len(share(FAMILY, 2, 3)[1]), 2)

    def test_without_an_explanation(self):
        for family in unexplained_families():
            for one, other in ((0, 1), (1, 0), (5, 2)):
                with self.assertRaises(NotExplained) as caught:
                    share(family, one, other)
                self.assertTrue(same_kind(caught.exception.answer, lists_of(family)))

    def test_families_stay(self):
        for family in families()[::5]:
            crews, upper = family.crews, lists_of(family)[1]
            for one, other in combinations(range(family.size), 2):
                share(family, one, other)
                fewest_jobs(family, one)
            self.assertEqual((family.crews, lists_of(family)[1]), (crews, upper))


if __name__ == "__main__":
    unittest.main()
