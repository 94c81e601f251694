"""[2], [3], [4], [15], [80]: groups of the greatest worth."""

import unittest
from random import Random

from crewlists.family import Family
from crewlists.jobs import Jobs
from crewlists.worths import dearest, is_dearest, price
from helpers import (
    LINES, PAIRS, all_families, all_groups, large_families, odd_values, random_lists, same_kind, slow_part_of_crews,
    unexplained_families,
)

FAMILY = Family.of(Jobs(4, [(0, 1), (1, 2, 3), (1,)]))
LARGE = 10 ** 18 - 1


def families():
    """Return families of every kind up to seven people, some without an explanation."""
    found = [family for size in range(4) for family in all_families(size)]
    found += all_families(4)[::6] + all_families(5)[::60] + large_families() + unexplained_families()
    return found + [Family.of(jobs) for jobs in random_lists(311, 12)]


def drawn_worths(chance, size):
    """Return worths of every kind: small and large ones, equal ones, ones below 0; as a list or as a tuple."""
    kind = chance.randrange(6)
    most = (0, 1, 3, 30, LARGE, LARGE)[kind]
    worths = [chance.randint(-most, most) for _ in range(size)]
    if kind == 5:
        worths = [chance.choice([-LARGE, 0, LARGE, LARGE - 1]) for _ in range(size)]
    if chance.randrange(3) == 0:
        worths = [abs(worth) for worth in worths]
    return chance.choice([list, tuple])(worths)


def placed(family, many):
    """Return all placeable groups with many members."""
    return [
        group for group in all_groups(family.size) if len(group) == many and slow_part_of_crews(family, group) == many
    ]


def worth(worths, group):
    """Return the worth of a group."""
    return sum(worths[person] for person in group)


def slow_dearest(family, worths, many):
    """Return all dearest groups, in order."""
    rows = placed(family, many)
    most = max(worth(worths, group) for group in rows)
    return [group for group in rows if worth(worths, group) == most]


def slow_levels(worths, group):
    """Return the levels of a dearest group."""
    found = []
    for least in sorted(set(worths), reverse=True):
        people = tuple(person for person in range(len(worths)) if worths[person] >= least)
        found.append((least, people, len(set(people) & set(group))))
    return found


class DearestTest(unittest.TestCase):

    def test_against_all_groups(self):
        chance = Random(312)
        shared = 0
        for family in families():
            for _ in range(3):
                worths = drawn_worths(chance, family.size)
                for many in range(family.full + 1):
                    right = slow_dearest(family, worths, many)
                    expected = (right[0], slow_levels(worths, right[0]))
                    self.assertTrue(same_kind(dearest(family, worths, many), expected))
                    shared += len(right) > 1
        self.assertGreater(shared, 100)

    def test_each_count_is_the_greatest_that_there_is(self):
        chance = Random(313)
        for family in families()[::2]:
            worths = drawn_worths(chance, family.size)
            for many in range(family.full + 1):
                for _, people, count in dearest(family, worths, many)[1]:
                    self.assertEqual(count, min(many, slow_part_of_crews(family, people)))
                    for group in placed(family, many):
                        self.assertLessEqual(len(set(group) & set(people)), count)

    def test_the_first_of_equal_ones(self):
        for family in families():
            for many in range(family.full + 1):
                for worths in ([0] * family.size, (-7,) * family.size, [LARGE] * family.size):
                    group, levels = dearest(family, worths, many)
                    self.assertEqual(group, placed(family, many)[0])
                    everyone = tuple(range(family.size))
                    self.assertEqual(levels, [(worths[0], everyone, many)] if family.size else [])

    def test_worths_below_0_are_taken_too(self):
        self.assertEqual(dearest(Family.uniform(3, 2), (-5, -2, -7), 2)[0], (0, 1))
        self.assertEqual(dearest(Family.uniform(3, 2), (-LARGE, -LARGE, 5), 2)[0], (0, 2))
        self.assertEqual(dearest(Family(2, [(0,)]), [-3, 9], 1), ((0,), [(9, (1,), 0), (-3, (0, 1), 1)]))

    def test_nobody(self):
        self.assertTrue(same_kind(dearest(Family(0, [()]), [], 0), ((), [])))
        self.assertTrue(same_kind(dearest(Family(0, [()]), (), 0), ((), [])))
        self.assertEqual(dearest(FAMILY, (5, -2, 7, 7), 0)[0], ())
        self.assertEqual(dearest(Family.uniform(2, 0), [1, 1], 0), ((), [(1, (0, 1), 0)]))

    def test_lists_and_tuples_and_a_new_list(self):
        worths = [5, -2, 7, 7]
        for many in range(4):
            found = dearest(FAMILY, worths, many)
            self.assertTrue(same_kind(dearest(FAMILY, tuple(worths), many), found))
            self.assertIsNot(dearest(FAMILY, worths, many)[1], found[1])
            found[1].clear()
            self.assertEqual(len(dearest(FAMILY, worths, many)[1]), 3)
        self.assertEqual(worths, [5, -2, 7, 7])


class PartsTest(unittest.TestCase):
    """[15]"""

    def test_fewer_people_are_a_part_of_more(self):
        chance = Random(314)
        for family in families():
            for _ in range(4):
                worths = drawn_worths(chance, family.size)
                rows = [dearest(family, worths, many)[0] for many in range(family.full + 1)]
                for many, group in enumerate(rows):
                    self.assertEqual(len(group), many)
                    for other in rows[many:]:
                        self.assertTrue(set(group) <= set(other))


class IsDearestTest(unittest.TestCase):

    def test_all_groups(self):
        chance = Random(315)
        counts = [0, 0]
        for family in families():
            worths = drawn_worths(chance, family.size)
            for many in range(family.full + 1):
                right = slow_dearest(family, worths, many)
                for group in all_groups(family.size):
                    self.assertIs(is_dearest(family, worths, many, group), group in right)
                    counts[group in right] += 1
        self.assertGreater(min(counts), 200)

    def test_what_is_no_group(self):
        family, worths = Family.uniform(3, 2), [1, 1, 1]
        self.assertIs(is_dearest(family, worths, 2, (0, 1)), True)
        self.assertIs(is_dearest(family, worths, 2, (1, 2)), True)
        bad = [[0, 1], (1, 0), (0, 0), (False, True), (0, True), (0,), (0, 1, 2), (), (0, 3), (-1, 0), {0: 1}, "01"]
        for thing in bad + odd_values():
            right = same_kind(thing, (0, 1)) or same_kind(thing, (1, 2)) or same_kind(thing, (0, 2))
            self.assertIs(is_dearest(family, worths, 2, thing), right)

    def test_odd_values(self):
        for family in families()[::9] + [PAIRS, LINES]:
            for many in range(family.full + 1):
                right = slow_dearest(family, [0] * family.size, many)
                for thing in odd_values() + [family, dearest(family, [0] * family.size, many), right]:
                    expected = any(same_kind(thing, group) for group in right)
                    self.assertIs(is_dearest(family, [0] * family.size, many, thing), expected)

    def test_one_less_is_not_dearest(self):
        worths = (LARGE, LARGE - 1, LARGE)
        for group, right in (((0, 1), False), ((0, 2), True), ((1, 2), False)):
            self.assertIs(is_dearest(Family.uniform(3, 2), worths, 2, group), right)


class PriceTest(unittest.TestCase):

    def is_in(self, family, worths, many, person, own):
        """Return whether the person is in some dearest group if worth this."""
        changed = list(worths)
        changed[person] = own
        return any(person in group for group in slow_dearest(family, changed, many))

    def test_against_all_groups(self):
        chance = Random(316)
        words = {"always": 0, "never": 0, "from": 0}
        for family in families():
            worths = drawn_worths(chance, family.size)
            for many in range(family.full + 1):
                rows = placed(family, many)
                for person in range(family.size):
                    found = price(family, worths, many, person)
                    words[found[0]] += 1
                    if all(person in group for group in rows):
                        self.assertTrue(same_kind(found, ("always",)))
                    elif not any(person in group for group in rows):
                        self.assertTrue(same_kind(found, ("never",)))
                    else:
                        self.assertEqual((found[0], len(found), found[1].__class__), ("from", 2, int))
                        for own, right in ((found[1] - 1, False), (found[1], True), (found[1] + 1, True)):
                            self.assertIs(self.is_in(family, worths, many, person, own), right)
        self.assertGreater(min(words.values()), 40)

    def test_far_from_the_worth_that_is_asked_for(self):
        for own in (-LARGE, -1, 0, 12, LARGE):
            self.assertEqual(price(Family.uniform(3, 1), [own, 5, -9], 1, 0), ("from", 5))
            self.assertEqual(price(Family.uniform(3, 2), (own, 5, -9), 2, 0), ("from", -9))
        self.assertEqual(price(Family.uniform(2, 1), (0, LARGE), 1, 0), ("from", LARGE))
        self.assertEqual(price(Family.uniform(2, 1), (0, -LARGE), 1, 0), ("from", -LARGE))

    def test_always_and_never(self):
        self.assertEqual(price(Family.uniform(2, 2), (1, 1), 2, 0), ("always",))
        self.assertEqual(price(Family.uniform(2, 2), (1, 1), 1, 0), ("from", 1))
        self.assertEqual(price(Family.uniform(2, 2), (1, 1), 0, 0), ("never",))
        self.assertEqual(price(Family(2, [(0,)]), (1, 99), 1, 1), ("never",))
        self.assertEqual(price(Family(2, [(0,)]), (1, 99), 1, 0), ("always",))

    def test_nothing_is_changed(self):
        worths = [3, 3, -1, 8]
        price(FAMILY, worths, 2, 1), dearest(FAMILY, worths, 2), is_dearest(FAMILY, worths, 2, (0, 3))
        self.assertEqual(worths, [3, 3, -1, 8])
        self.assertEqual(FAMILY, Family(4, [(0, 1, 2), (0, 1, 3)]))


class ExampleTest(unittest.TestCase):

    def test_the_example(self):
        found = ((0, 2), [(7, (2, 3), 1), (5, (0, 2, 3), 2), (-2, (0, 1, 2, 3), 2)])
        self.assertTrue(same_kind(dearest(FAMILY, (5, -2, 7, 7), 2), found))
        prices = [price(FAMILY, (5, -2, 7, 7), many, 1) for many in (2, 3)]
        self.assertTrue(same_kind(prices, [("from", 5), ("always",)]))


if __name__ == "__main__":
    unittest.main()
