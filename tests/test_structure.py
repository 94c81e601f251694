"""[2], [32]: the structure of a family."""

import unittest

from crewlists import structure
from crewlists.family import Family
from crewlists.jobs import Jobs
from crewlists.structure import (
    blocks, clash_within, clashes, closure, hangs, idle, is_closed, is_knot, is_round, knots, needed, round_part,
)
from helpers import (
    PAIRS, all_groups, few_families, minus, same_kind, slow_clashes, slow_knots, slow_part_of_crews, union,
)

FAMILY = Family.of(Jobs(4, [(0, 1), (1, 2, 3), (1,)]))


def slow_hangs(family, group, person):
    """Return whether the person is a member, or adds nothing to the strength."""
    larger = union(group, (person,))
    return person in group or slow_part_of_crews(family, larger) == slow_part_of_crews(family, group)


def slow_round(family, group, all_clashes):
    """Return the group of all who are in a clash that is a part of the group."""
    return union(*[clash for clash in all_clashes if set(clash) <= set(group)])


class StructureTest(unittest.TestCase):

    def test_hangs_and_closure(self):
        for family in few_families():
            for group in all_groups(family.size):
                hanging = [person for person in range(family.size) if slow_hangs(family, group, person)]
                for person in range(family.size):
                    self.assertIs(hangs(family, group, person), person in hanging)
                self.assertTrue(same_kind(closure(family, group), tuple(hanging)))
                self.assertIs(is_closed(family, group), tuple(hanging) == group)

    def test_round_part(self):
        for family in few_families():
            all_clashes = slow_clashes(family)
            for group in all_groups(family.size):
                found = slow_round(family, group, all_clashes)
                self.assertTrue(same_kind(round_part(family, group), found))
                self.assertIs(is_round(family, group), found == group)

    def test_clashes_and_knots(self):
        for family in few_families():
            self.assertTrue(same_kind(clashes(family), slow_clashes(family)))
            found = slow_knots(family)
            self.assertTrue(same_kind(knots(family), found))
            for group in all_groups(family.size):
                self.assertIs(is_knot(family, group), group in found)

    def test_clash_within(self):
        asked = 0
        for family in few_families():
            all_clashes = slow_clashes(family)
            for group in family:
                for person in minus(range(family.size), group):
                    if slow_hangs(family, group, person):
                        found = [clash for clash in all_clashes if set(clash) <= set(group) | {person}]
                        self.assertTrue(same_kind([clash_within(family, group, person)], found))
                        asked += 1
        self.assertGreater(asked, 1000)

    def test_clash_of_one_who_is_idle(self):
        family = Family(3, [(0, 1)])
        self.assertEqual(clash_within(family, (0, 1), 2), (2,))
        self.assertEqual(clash_within(family, (), 2), (2,))

    def test_idle_and_needed(self):
        for family in few_families():
            counts = [sum(1 for crew in family.crews if person in crew) for person in range(family.size)]
            missing = tuple(person for person, count in enumerate(counts) if count == 0)
            always = tuple(person for person, count in enumerate(counts) if count == len(family.crews))
            self.assertTrue(same_kind(idle(family), missing))
            self.assertTrue(same_kind(needed(family), always))

    def test_blocks(self):
        for family in few_families():
            all_clashes = slow_clashes(family)
            found = blocks(family)
            self.assertEqual(union(*found), tuple(range(family.size)))
            self.assertEqual(sum(len(block) for block in found), family.size)
            self.assertEqual(found, sorted(found))
            for one in range(family.size):
                block = [block for block in found if one in block][0]
                for other in range(family.size):
                    linked = any(one in clash and other in clash for clash in all_clashes)
                    self.assertEqual(other in block, one == other or linked)

    def test_edges(self):
        nobody, whole, none = Family(0, [()]), Family.uniform(7, 7), Family.uniform(7, 0)
        everyone = tuple(range(7))
        self.assertEqual([clashes(nobody), knots(nobody), idle(nobody), needed(nobody), blocks(nobody)],
                         [[], [()], (), (), []])
        self.assertEqual([clashes(whole), knots(whole), idle(whole), needed(whole)], [[], [()], (), everyone])
        self.assertEqual(blocks(whole), [(person,) for person in range(7)])
        self.assertEqual([clashes(none), knots(none), idle(none), needed(none)],
                         [[(person,) for person in range(7)], [everyone], everyone, ()])
        self.assertEqual(blocks(none), [(person,) for person in range(7)])
        self.assertEqual(blocks(Family.uniform(7, 3)), [everyone])
        self.assertEqual([closure(none, ()), round_part(none, everyone), round_part(whole, everyone)],
                         [everyone, everyone, ()])

    def test_lists_are_new(self):
        for function in (clashes, knots, blocks):
            first = list(function(FAMILY))
            function(FAMILY).clear()
            self.assertEqual(function(FAMILY), first)

    def test_the_family_stays(self):
        before = (PAIRS.size, PAIRS.crews, PAIRS.full, list(PAIRS))
        for function in (clashes, knots, blocks, idle, needed):
            function(PAIRS)
        for name in ("closure", "round_part", "is_closed", "is_round", "is_knot"):
            getattr(structure, name)(PAIRS, (0, 1, 3))
        self.assertEqual((PAIRS.size, PAIRS.crews, PAIRS.full, list(PAIRS)), before)


class ExampleTest(unittest.TestCase):

    def test_the_example(self):
        self.assertEqual(
            [clashes(FAMILY), knots(FAMILY), needed(FAMILY), closure(FAMILY, (2,)), blocks(FAMILY)],
            [[(2, 3)], [(), (2, 3)], (0, 1), (2, 3), [(0,), (1,), (2, 3)]],
        )


if __name__ == "__main__":
    unittest.main()
