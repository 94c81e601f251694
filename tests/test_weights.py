"""[40]: weights of knots."""

import unittest
from itertools import combinations

from crewlists.family import Family
from crewlists.jobs import Jobs
from crewlists.weights import above, room, round_bound, weights
from helpers import (
    LINES, PAIRS, all_groups, few_families, few_lists, random_lists, same_kind, slow_above, slow_clashes, slow_open,
    slow_part_of_crews, slow_weights, union,
)


def round_groups(family):
    """Return all round groups of a family."""
    all_clashes = slow_clashes(family)
    return [
        group for group in all_groups(family.size)
        if union(*[clash for clash in all_clashes if set(clash) <= set(group)]) == group
    ]


class WeightsTest(unittest.TestCase):

    def test_against_slow_sums(self):
        for family in few_families():
            self.assertTrue(same_kind(weights(family), slow_weights(family)))

    def test_they_add_up_to_the_room(self):
        for family in few_families():
            found = weights(family)
            for knot, _ in found:
                total = sum(weight for other, weight in found if set(knot) <= set(other))
                self.assertEqual(total, family.full - slow_part_of_crews(family, knot))

    def test_above_and_room(self):
        for family in few_families()[::3] + [LINES, PAIRS]:
            for group in all_groups(family.size):
                self.assertTrue(same_kind(room(family, group), family.full - slow_part_of_crews(family, group)))
            for group in all_groups(family.size)[::5]:
                self.assertTrue(same_kind(above(family, group), slow_above(family, group)))

    def test_edges(self):
        nobody = Family(0, [()])
        self.assertEqual([weights(nobody), above(nobody, ()), room(nobody, ())], [[((), 0)], 0, 0])
        self.assertEqual(weights(Family.uniform(7, 7)), [((), 7)])
        self.assertEqual(weights(Family.uniform(7, 0)), [((0, 1, 2, 3, 4, 5, 6), 0)])
        self.assertEqual(weights(Family.uniform(7, 3)), [((), 3), ((0, 1, 2, 3, 4, 5, 6), 0)])
        self.assertEqual([above(Family.uniform(7, 7), (0,)), room(Family.uniform(7, 7), (0,))], [0, 6])

    def test_a_weight_below_0_and_a_group_over(self):
        self.assertEqual(weights(PAIRS)[0], ((), -1))
        self.assertEqual([weight for _, weight in weights(LINES)], [0, 1, 1, 1, 0])
        self.assertEqual([above(LINES, (0,)), room(LINES, (0,))], [3, 2])

    def test_list_is_new(self):
        weights(PAIRS).clear()
        self.assertEqual(len(weights(PAIRS)), 5)


class RoundBoundTest(unittest.TestCase):

    def slow_bound(self, family, rounds):
        total = 0
        for many in range(1, len(rounds) + 1):
            for chosen in combinations(rounds, many):
                total += (-1) ** (many + 1) * slow_part_of_crews(family, union(*chosen))
        return total

    def test_against_slow_sums(self):
        for family in few_families()[::4] + [LINES, PAIRS]:
            found = round_groups(family)
            chosen = [[group] for group in found] + [[a, b] for a in found[:6] for b in found[-6:]]
            chosen += [found[at:at + many] for many in (3, 4, 5, 6) for at in range(0, len(found), 7)]
            for rounds in chosen:
                if rounds:
                    asked = list(rounds)
                    self.assertTrue(same_kind(round_bound(family, asked), self.slow_bound(family, rounds)))
                    self.assertEqual(asked, rounds)

    def test_the_same_group_several_times(self):
        for many in range(1, 7):
            self.assertEqual(round_bound(PAIRS, [(0, 1)] * many), 1)
            self.assertEqual(round_bound(PAIRS, [()] * many), 0)

    def test_counts_the_jobs_open_to_all(self):
        for jobs in few_lists()[::3] + random_lists(12, 25, 5):
            family = Family.of(jobs)
            found = round_groups(family)
            for rounds in [[group] for group in found] + [[a, b] for a in found for b in found] + [found[-6:]]:
                shared = set(range(len(jobs))).intersection(*[slow_open(jobs, group) for group in rounds])
                self.assertEqual(round_bound(family, rounds), len(shared))

    def test_bars_a_family(self):
        # The lines share person 0 with a strength of 1, but no job could be open to all three of them.
        self.assertEqual(round_bound(LINES, [(0, 1, 2), (0, 3, 4), (0, 5, 6)]), 0)
        self.assertEqual(round_bound(Family.of(Jobs.everyone(3, 1)), [(0, 1), (0, 2), (1, 2)]), 1)


class ExampleTest(unittest.TestCase):

    def test_the_example(self):
        family = Family.of(Jobs(4, [(0, 1), (1, 2, 3), (1,)]))
        self.assertEqual(weights(family), [((), 1), ((2, 3), 2)])
        pairs = Family.uniform(2, 1) | Family.uniform(2, 1) | Family.uniform(2, 1)
        self.assertEqual(
            weights(pairs.capped(2)),
            [((), -1), ((0, 1), 1), ((2, 3), 1), ((4, 5), 1), ((0, 1, 2, 3, 4, 5), 0)],
        )


if __name__ == "__main__":
    unittest.main()
