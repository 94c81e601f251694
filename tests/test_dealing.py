"""[2], [22]: dealing people to jobs."""

import unittest

from crewlists.dealing import deal, deals, is_deal, placeable, short_part, strength
from crewlists.errors import NotPlaceable
from crewlists.jobs import Jobs
from helpers import (
    all_groups, few_lists, odd_values, random_lists, same_kind, slow_deals, slow_placeable, slow_short, slow_strength,
)

JOBS = Jobs(4, [(0, 1), (1, 2, 3), (1,)])


def cases():
    """Yield small job lists with each group of their people."""
    for jobs in few_lists() + random_lists(6, 30, 5):
        for group in all_groups(jobs.size):
            yield jobs, group


class ShortPartTest(unittest.TestCase):

    def test_against_the_definition(self):
        for jobs, group in cases():
            self.assertTrue(same_kind(short_part(jobs, group), slow_short(jobs, group)))

    def test_strength_against_all_deals(self):
        for jobs, group in cases():
            self.assertTrue(same_kind(strength(jobs, group), slow_strength(jobs, group)))

    def test_a_group_is_placeable_if_its_short_part_is_nobody(self):
        for jobs, group in cases():
            self.assertEqual(short_part(jobs, group) == (), bool(slow_deals(jobs, group)))

    def test_edges(self):
        everyone = tuple(range(7))
        self.assertEqual(short_part(Jobs(0, []), ()), ())
        self.assertEqual(short_part(Jobs(7, []), everyone), everyone)
        self.assertEqual(short_part(Jobs.everyone(7, 6), everyone), everyone)
        self.assertEqual(short_part(Jobs.everyone(7, 7), everyone), ())
        self.assertEqual(short_part(Jobs(7, [(0,)] * 7), everyone), (1, 2, 3, 4, 5, 6))
        self.assertEqual(short_part(Jobs(7, [(0, 1), (3,)]), (0, 1, 3)), (0, 1))
        self.assertEqual(strength(Jobs(7, []), everyone), 0)
        self.assertEqual(strength(Jobs.everyone(7, 6), everyone), 6)
        self.assertEqual(strength(Jobs.everyone(7, 7), ()), 0)

    def test_of_groups_with_equal_shortage_the_least(self):
        # (0, 1) lacks one job, and so do (0, 1, 2) and (0, 1, 2, 3).
        jobs = Jobs(4, [(0, 1), (1, 2), (1, 3)]).struck(1, 1).struck(2, 1)
        self.assertEqual(short_part(jobs, (0, 1, 2, 3)), (0, 1))


class DealTest(unittest.TestCase):

    def test_the_first_deal_or_the_error(self):
        for jobs, group in cases():
            all_deals = slow_deals(jobs, group)
            if all_deals:
                self.assertTrue(same_kind(deal(jobs, group), all_deals[0]))
            else:
                with self.assertRaises(NotPlaceable) as caught:
                    deal(jobs, group)
                self.assertIs(caught.exception.group, group)
                self.assertEqual(caught.exception.short, slow_short(jobs, group))

    def test_the_short_part_of_the_error(self):
        with self.assertRaises(NotPlaceable) as caught:
            deal(JOBS, (0, 1, 2, 3))
        self.assertEqual((caught.exception.group, caught.exception.short), ((0, 1, 2, 3), (2, 3)))

    def test_nobody_is_dealt_nothing(self):
        self.assertEqual(deal(Jobs(0, []), ()), ())
        self.assertEqual(deal(Jobs.everyone(7, 7), ()), ())

    def test_seven_people_and_jobs(self):
        everyone = tuple(range(7))
        self.assertEqual(deal(Jobs.everyone(7, 7), everyone), everyone)
        single = Jobs(7, [(person,) for person in (6, 5, 4, 3, 2, 1, 0)])
        self.assertEqual(deal(single, everyone), (6, 5, 4, 3, 2, 1, 0))


class DealsTest(unittest.TestCase):

    def test_all_deals_in_order(self):
        for jobs, group in cases():
            self.assertTrue(same_kind(list(deals(jobs, group)), slow_deals(jobs, group)))

    def test_many(self):
        self.assertEqual(len(list(deals(Jobs.everyone(7, 7), tuple(range(7))))), 5040)
        self.assertEqual(list(deals(Jobs.everyone(7, 6), tuple(range(7)))), [])

    def test_is_a_generator(self):
        walk = deals(JOBS, (0, 1))
        self.assertIs(iter(walk), walk)
        self.assertEqual(next(walk), (0, 1))

    def test_left_after_its_first_item(self):
        for found in deals(Jobs.everyone(7, 7), tuple(range(7))):
            self.assertEqual(found, tuple(range(7)))
            break
        self.assertEqual(list(deals(JOBS, (0, 1))), [(0, 1), (0, 2)])

    def test_begun_within_another_walk(self):
        jobs = Jobs.everyone(3, 3)
        whole = slow_deals(jobs, (0, 2))
        self.assertEqual(
            [(one, other) for one in deals(jobs, (0, 2)) for other in deals(jobs, (0, 2))],
            [(one, other) for one in whole for other in whole],
        )

    def test_two_walks_in_turn(self):
        one, other = deals(JOBS, (0, 1)), deals(JOBS, (0, 1))
        self.assertEqual([next(one), next(other), next(one), next(other)], [(0, 1), (0, 1), (0, 2), (0, 2)])

    def test_none(self):
        self.assertEqual(list(deals(Jobs(1, []), (0,))), [])
        self.assertEqual(list(deals(Jobs(1, []), ())), [()])


class IsDealTest(unittest.TestCase):

    def test_against_all_deals(self):
        things = [()] + [
            (one,) for one in range(-1, 4)
        ] + [
            (one, other) for one in range(-1, 4) for other in range(-1, 4)
        ] + [
            (one, other, third) for one in range(4) for other in range(4) for third in range(4)
        ]
        for jobs in few_lists()[::5]:
            for group in all_groups(jobs.size):
                right = slow_deals(jobs, group)
                for thing in things:
                    self.assertIs(is_deal(jobs, group, thing), thing in right)

    def test_truths_are_no_indexes(self):
        jobs = Jobs.everyone(2, 2)
        self.assertIs(is_deal(jobs, (0, 1), (0, 1)), True)
        self.assertIs(is_deal(jobs, (0, 1), (1, 0)), True)
        for thing in ((False, True), (0, True), (False, 1), (True, 0), (1, False)):
            self.assertIs(is_deal(jobs, (0, 1), thing), False)
        self.assertIs(is_deal(jobs, (0,), (True,)), False)

    def test_a_list_is_none(self):
        jobs = Jobs.everyone(2, 2)
        for group, thing in (((0, 1), [0, 1]), ((0,), [0]), ((), [])):
            self.assertIs(is_deal(jobs, group, thing), False)

    def test_values_of_every_kind(self):
        jobs = Jobs.everyone(2, 2)
        for thing in odd_values():
            self.assertIs(is_deal(jobs, (), thing), False)
            self.assertIs(is_deal(jobs, (0,), thing), False)
            self.assertIs(is_deal(jobs, (0, 1), (thing, 0)), False)
            if not (isinstance(thing, tuple) and thing == (1, 0)):
                self.assertIs(is_deal(jobs, (0, 1), thing), False)

    def test_returns_a_truth(self):
        self.assertIs(is_deal(Jobs(0, []), (), ()), True)
        self.assertIs(is_deal(Jobs(0, []), (), (0,)), False)


class PlaceableTest(unittest.TestCase):

    def test_against_all_deals(self):
        for jobs in few_lists() + random_lists(7, 30, 5):
            self.assertTrue(same_kind(placeable(jobs), slow_placeable(jobs)))

    def test_edges(self):
        self.assertEqual(placeable(Jobs(0, [])), [()])
        self.assertEqual(placeable(Jobs(7, [])), [()])
        self.assertEqual(placeable(Jobs(7, [()] * 7)), [()])
        self.assertEqual(placeable(Jobs.everyone(7, 7)), all_groups(7))

    def test_list_is_new(self):
        placeable(JOBS).clear()
        self.assertEqual(placeable(JOBS)[0], ())

    def test_the_jobs_stay(self):
        jobs = Jobs(4, JOBS.jobs)
        for group in all_groups(4):
            short_part(jobs, group)
            list(deals(jobs, group))
        placeable(jobs)
        self.assertEqual(jobs, JOBS)


class ExampleTest(unittest.TestCase):

    def test_the_example(self):
        self.assertEqual(
            [deal(JOBS, (0, 1, 3)), short_part(JOBS, (0, 1, 2, 3)), list(deals(JOBS, (0, 1)))],
            [(0, 2, 1), (2, 3), [(0, 1), (0, 2)]],
        )


if __name__ == "__main__":
    unittest.main()
