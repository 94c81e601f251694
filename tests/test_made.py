"""[12], [13], [62]: two families together, and families with a helper."""

import unittest

from crewlists.errors import TooMany, Unlike
from crewlists.family import Family
from crewlists.jobs import Jobs
from crewlists.made import common, helper, parted
from crewlists.structure import is_round
from helpers import (
    LINES, PAIRS, all_families, all_groups, few_lists, large_families, minus, parts_of, random_lists, same_kind,
    slow_greatest, slow_part_of_crews, union,
)

FAMILY = Family.of(Jobs(4, [(0, 1), (1, 2, 3), (1,)]))


def pairs():
    """Return pairs of families of one size, of all sizes, some of them without an explanation."""
    found = [(one, other) for size in range(4) for one in all_families(size) for other in all_families(size)]
    found += [(one, other) for one in all_families(4)[::7] for other in all_families(4)[::9]]
    found += [(one, other) for one in all_families(5)[::45] for other in all_families(5)[::50]]
    rows = large_families()
    return found + [(one, other) for one in rows[::2] for other in rows[1::2] if one.size == other.size]


def placed_in(family):
    """Return the set of the parts of all crews."""
    return {part for crew in family.crews for part in parts_of(crew)}


class PartedTest(unittest.TestCase):

    def assert_parted(self, one, other, group, placed, behind):
        ways = [first for first in parts_of(group) if first in placed and minus(group, first) in behind]
        found = parted(one, other, group)
        self.assertIsInstance(found, tuple)
        if ways:
            self.assertEqual((len(found), found[0]), (3, "parted"))
            self.assertIn(found[1], ways)
            self.assertTrue(same_kind(found[2], minus(group, found[1])))
            return True
        self.assertEqual((len(found), found[0]), (2, "short"))
        short = found[1]
        self.assertIn(short, parts_of(group))
        self.assertLess(slow_part_of_crews(one, short) + slow_part_of_crews(other, short), len(short))
        return False

    def test_every_group(self):
        counts = [0, 0]
        for one, other in pairs()[::4]:
            placed, behind = placed_in(one), placed_in(other)
            for group in all_groups(one.size):
                counts[self.assert_parted(one, other, group, placed, behind)] += 1
        self.assertGreater(min(counts), 500)

    def test_edges(self):
        self.assertEqual(parted(Family(0, [()]), Family(0, [()]), ()), ("parted", (), ()))
        self.assertEqual(parted(Family.uniform(7, 0), Family.uniform(7, 0), ()), ("parted", (), ()))
        self.assertEqual(parted(Family.uniform(1, 0), Family.uniform(1, 1), (0,)), ("parted", (), (0,)))
        self.assertEqual(parted(Family.uniform(1, 1), Family.uniform(1, 0), (0,)), ("parted", (0,), ()))
        self.assertEqual(parted(Family.uniform(1, 0), Family.uniform(1, 0), (0,)), ("short", (0,)))
        everyone = (0, 1, 2, 3, 4, 5, 6)
        self.assertEqual(parted(Family.uniform(7, 3), Family.uniform(7, 3), everyone), ("short", everyone))
        self.assertEqual(parted(Family.uniform(7, 3), Family.uniform(7, 4), everyone)[0], "parted")

    def test_a_part_that_is_short(self):
        # All five are no more than the strengths of all; but 0, 1 and 2 have just two jobs.
        one = other = Family.uniform(3, 1) | Family.uniform(2, 2)
        found = parted(one, other, (0, 1, 2, 3, 4))
        self.assertEqual(found, ("short", (0, 1, 2)))

    def test_unlike(self):
        for one, other in ((0, 1), (4, 5), (7, 6)):
            for first, second in ((one, other), (other, one)):
                with self.assertRaises(Unlike):
                    parted(Family.uniform(first, 0), Family.uniform(second, 0), ())
                with self.assertRaises(Unlike):
                    common(Family.uniform(first, 0), Family.uniform(second, 0))


class CommonTest(unittest.TestCase):

    def test_against_all_groups(self):
        for one, other in pairs():
            both = placed_in(one) & placed_in(other)
            longest = [group for group in all_groups(one.size) if group in both]
            longest = [group for group in longest if len(group) == len(longest[-1])]
            bars = [
                part for part in all_groups(one.size)
                if slow_part_of_crews(one, part) + slow_part_of_crews(other, minus(range(one.size), part))
                == len(longest[0])
            ]
            self.assertTrue(same_kind(common(one, other), (longest[0], bars[0])))

    def test_edges(self):
        self.assertEqual(common(Family(0, [()]), Family(0, [()])), ((), ()))
        self.assertEqual(common(Family.uniform(7, 0), Family.uniform(7, 7)), ((), (0, 1, 2, 3, 4, 5, 6)))
        self.assertEqual(common(Family.uniform(7, 7), Family.uniform(7, 0)), ((), ()))
        self.assertEqual(common(Family.uniform(7, 3), Family.uniform(7, 5)), ((0, 1, 2), (0, 1, 2, 3, 4, 5, 6)))

    def test_the_first_ones(self):
        one, other = Family(4, [(0, 1), (2, 3)] + [(0, 2), (0, 3), (1, 2), (1, 3)]), Family(4, [(1, 3), (2, 3)])
        self.assertEqual(common(one, other), ((1, 3), ()))
        self.assertEqual(common(Family(3, [(1,), (2,)]), Family(3, [(0,), (2,)])), ((2,), ()))
        self.assertEqual(common(Family(3, [(0,)]), Family(3, [(1, 2)])), ((), (1, 2)))


class HelperTest(unittest.TestCase):

    def slow_strength(self, family, group, members):
        """Return the strength of a group, whose last member may be the helper, by the definition of helpers."""
        new = family.size
        others = tuple(person for person in members if person != new)
        old = slow_part_of_crews(family, others)
        if new not in members:
            return old
        hanging = all(slow_part_of_crews(family, union(others, (person,))) == old for person in group)
        return old if hanging else old + 1

    def assert_helper(self, family, group):
        crews = family.crews
        found = helper(family, group)
        self.assertIsInstance(found, Family)
        self.assertEqual(found.size, family.size + 1)
        for members in all_groups(found.size):
            self.assertEqual(found.strength(members), self.slow_strength(family, group, members))
        self.assertEqual(family.crews, crews)

    def test_strengths(self):
        families = [family for size in range(4) for family in all_families(size)] + all_families(4)[::5]
        for family in families + all_families(5)[::60]:
            for group in all_groups(family.size):
                self.assert_helper(family, group)

    def test_strengths_of_six_people(self):
        for family in [PAIRS, Family.uniform(6, 3)] + [row for row in large_families() if row.size == 6][:4]:
            for group in all_groups(6)[::6]:
                self.assert_helper(family, group)

    def test_round_groups_and_others(self):
        families = all_families(3) + all_families(4)[::3]
        counts = [0, 0]
        for family in families:
            for group in all_groups(family.size):
                counts[is_round(family, group)] += 1
        self.assertGreater(min(counts), 50)

    def test_of_nobody_the_helper_is_idle(self):
        for family in all_families(3) + all_families(5)[::40]:
            self.assertEqual(helper(family, ()), family | Family.uniform(1, 0))

    def test_of_one_person_the_helper_does_the_same(self):
        self.assertEqual(helper(Family.uniform(1, 1), (0,)), Family.uniform(2, 1))
        self.assertEqual(helper(FAMILY, (2,)).crews, ((0, 1, 2), (0, 1, 3), (0, 1, 4)))
        self.assertEqual(helper(FAMILY, (0,)).crews, ((0, 1, 2), (0, 1, 3), (1, 2, 4), (1, 3, 4)))

    def test_edges(self):
        self.assertEqual(helper(Family(0, [()]), ()), Family.uniform(1, 0))
        self.assertEqual(helper(Family.uniform(6, 3), (0, 1, 2, 3, 4, 5)), Family.uniform(7, 3))
        self.assertEqual(helper(Family.uniform(6, 6), (0, 1, 2, 3, 4, 5)), Family.uniform(7, 6))

    def test_seven_people(self):
        for family in (Family.uniform(7, 0), Family.uniform(7, 7), LINES):
            for group in ((), (0,), (0, 1, 2)):
                with self.assertRaises(TooMany) as caught:
                    helper(family, group)
                self.assertTrue(same_kind(caught.exception.limit, 7))


class HelpersGuaranteeTest(unittest.TestCase):
    """[13]"""

    def test_one_more_person_with_the_open_jobs(self):
        met = 0
        for jobs in few_lists()[::3] + random_lists(111, 60, 6):
            family = Family.of(jobs)
            for group in all_groups(jobs.size):
                if is_round(family, group):
                    met += 1
                    hired = jobs.hired(jobs.open_to(group))
                    self.assertEqual(Family.of(hired), helper(family, group))
        self.assertGreater(met, 200)

    def test_of_the_greatest_explanation_too(self):
        for jobs in random_lists(112, 20, 5):
            family, upper = Family.of(jobs), slow_greatest(jobs)
            for group in all_groups(jobs.size):
                if is_round(family, group):
                    self.assertEqual(Family.of(upper.hired(upper.open_to(group))), helper(family, group))


class TogetherTest(unittest.TestCase):
    """[12]: a group can be parted if and only if it is placeable in the sum of the families."""

    def test_parted_and_plus(self):
        for one, other in pairs()[::12]:
            both = one + other
            for group in all_groups(one.size):
                self.assertEqual(parted(one, other, group)[0] == "parted", group in both)


if __name__ == "__main__":
    unittest.main()
