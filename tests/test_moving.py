"""[23]: letting one more person in, and filling wanted jobs."""

import unittest

from crewlists.errors import NotFilled, NotPlaceable
from crewlists.jobs import Jobs
from crewlists.moving import admit, both
from helpers import (
    all_groups, few_lists, minus, random_lists, same_kind, slow_deals, slow_short, union,
)

JOBS = Jobs(4, [(0, 1), (1, 2, 3), (1,)])


def slow_admit(jobs, group, dealt, person):
    """Return the first of the deals with the fewest moves, None if there is no deal."""
    before = dict(zip(group, dealt))
    larger = union(group, (person,))
    rated = [
        (sum(1 for member, at in zip(larger, found) if member != person and before[member] != at), found)
        for found in slow_deals(jobs, larger)
    ]
    return min(rated)[1] if rated else None


class AdmitTest(unittest.TestCase):

    def assert_admits(self, jobs, group, dealt, person):
        wanted = slow_admit(jobs, group, dealt, person)
        larger = union(group, (person,))
        if wanted is not None:
            self.assertTrue(same_kind(admit(jobs, group, dealt, person), wanted))
            return
        with self.assertRaises(NotPlaceable) as caught:
            admit(jobs, group, dealt, person)
        self.assertEqual(caught.exception.group, larger)
        self.assertEqual(caught.exception.short, slow_short(jobs, larger))

    def test_against_all_deals(self):
        for jobs in few_lists()[::2] + random_lists(9, 25, 5):
            for group in all_groups(jobs.size):
                for dealt in slow_deals(jobs, group)[:4]:
                    for person in minus(range(jobs.size), group):
                        self.assert_admits(jobs, group, dealt, person)

    def test_nobody_moves_if_nobody_must(self):
        jobs = Jobs.everyone(3, 3)
        self.assertEqual(admit(jobs, (0, 2), (2, 1), 1), (2, 0, 1))
        self.assertEqual(admit(Jobs.everyone(7, 7), (0, 1, 2, 4, 5, 6), (6, 5, 4, 2, 1, 0), 3), (6, 5, 4, 3, 2, 1, 0))

    def test_the_first_of_those_with_the_fewest_moves(self):
        self.assertEqual(admit(Jobs.everyone(2, 3), (0,), (2,), 1), (2, 0))
        # 0 has to move, to job 1 or to job 2.
        self.assertEqual(admit(Jobs(2, [(0, 1), (0,), (0,)]), (0,), (0,), 1), (1, 0))
        # 0 has to move; the first deal of all, (1, 2, 0), moves 1, too.
        self.assertEqual(admit(Jobs(3, [(0, 2), (0, 1), (1,), (0,)]), (0, 1), (0, 1), 2), (3, 1, 0))

    def test_into_an_empty_group(self):
        self.assertEqual(admit(JOBS, (), (), 1), (0,))
        with self.assertRaises(NotPlaceable) as caught:
            admit(Jobs(2, [(1,)]), (), (), 0)
        self.assertEqual((caught.exception.group, caught.exception.short), ((0,), (0,)))

    def test_the_error_has_the_larger_group(self):
        with self.assertRaises(NotPlaceable) as caught:
            admit(JOBS, (0, 1, 3), (0, 2, 1), 2)
        self.assertEqual((caught.exception.group, caught.exception.short), ((0, 1, 2, 3), (2, 3)))


class BothTest(unittest.TestCase):

    def assert_right(self, jobs, group, wanted, pairs):
        self.assertIsInstance(pairs, list)
        self.assertEqual(pairs, sorted(pairs))
        for pair in pairs:
            self.assertTrue(same_kind([pair.__class__, len(pair)], [tuple, 2]))
            self.assertIn(pair[0], jobs.jobs[pair[1]])
        people, indexes = [person for person, _ in pairs], [at for _, at in pairs]
        self.assertEqual((len(set(people)), len(set(indexes))), (len(pairs), len(pairs)))
        self.assertTrue(set(group) <= set(people))
        self.assertTrue(set(wanted) <= set(indexes))

    def test_every_group_with_all_wanted_jobs(self):
        for jobs in few_lists()[::2] + random_lists(10, 10, 5):
            turned = jobs.turned()
            fillable = {wanted: bool(slow_deals(turned, wanted)) for wanted in all_groups(len(jobs))}
            for group in all_groups(jobs.size):
                works = bool(slow_deals(jobs, group))
                for wanted, fills in fillable.items():
                    if works and fills:
                        self.assert_right(jobs, group, wanted, both(jobs, group, wanted))
                    elif works:
                        self.assert_not_filled(jobs, group, wanted)
                    else:
                        self.assert_not_placeable(jobs, group, wanted)

    def assert_not_filled(self, jobs, group, wanted):
        with self.assertRaises(NotFilled) as caught:
            both(jobs, group, wanted)
        self.assertIs(caught.exception.wanted, wanted)
        self.assertEqual(caught.exception.short, slow_short(jobs.turned(), wanted))

    def assert_not_placeable(self, jobs, group, wanted):
        with self.assertRaises(NotPlaceable) as caught:
            both(jobs, group, wanted)
        self.assertIs(caught.exception.group, group)
        self.assertEqual(caught.exception.short, slow_short(jobs, group))

    def test_a_chain_of_moves(self):
        # Deals of (0, 1, 2) leave the last job to nobody, unless 3 or a mover takes it.
        jobs = Jobs(4, [(0, 3), (0, 1), (1, 2), (2,)])
        self.assert_right(jobs, (0, 1, 2), (0, 1, 2, 3), both(jobs, (0, 1, 2), (0, 1, 2, 3)))
        self.assert_right(jobs, (0, 1, 2), (3,), both(jobs, (0, 1, 2), (3,)))

    def test_no_group_or_no_wanted_jobs(self):
        self.assertEqual(both(JOBS, (), ()), [])
        self.assertEqual(both(Jobs(0, []), (), ()), [])
        self.assert_right(JOBS, (), (0, 1, 2), both(JOBS, (), (0, 1, 2)))
        self.assert_right(JOBS, (0, 1, 3), (), both(JOBS, (0, 1, 3), ()))

    def test_the_first_of_two_errors(self):
        jobs = Jobs(2, [(), (0,)])
        self.assert_not_placeable(jobs, (0, 1), (0, 1))
        self.assert_not_placeable(jobs, (1,), ())
        self.assert_not_filled(jobs, (0,), (0, 1))
        self.assert_not_filled(jobs, (), (0,))

    def test_the_jobs_stay(self):
        jobs = Jobs(4, JOBS.jobs)
        both(jobs, (0, 1, 3), (0, 1, 2))
        admit(jobs, (0,), (0,), 1)
        self.assertEqual(jobs, JOBS)

    def test_seven_people_and_jobs(self):
        everyone = tuple(range(7))
        jobs = Jobs(7, [tuple(sorted({at, (at + 1) % 7})) for at in range(7)])
        self.assert_right(jobs, everyone, everyone, both(jobs, everyone, everyone))
        self.assert_right(jobs, (0, 1, 2), (4, 5, 6), both(jobs, (0, 1, 2), (4, 5, 6)))


if __name__ == "__main__":
    unittest.main()
