"""[2], [20]: integers and groups."""

import unittest

from crewlists.groups import apart, groups, is_group, is_integer, parts, together
from helpers import all_groups, minus, odd_values, parts_of, same_kind, union


class IsIntegerTest(unittest.TestCase):

    def test_integers(self):
        for thing in (0, 1, -1, 7, 10 ** 40, -10 ** 40):
            self.assertIs(is_integer(thing), True)

    def test_truths_are_none(self):
        self.assertIs(is_integer(True), False)
        self.assertIs(is_integer(False), False)

    def test_any_other_value(self):
        for thing in odd_values():
            if thing.__class__ is not int:
                self.assertIs(is_integer(thing), False, thing)


class IsGroupTest(unittest.TestCase):

    def test_every_group_of_its_size_and_of_no_lesser_one(self):
        for size in range(8):
            for group in all_groups(7):
                self.assertIs(is_group(size, group), all(person < size for person in group))

    def test_nobody_is_a_group_of_every_size(self):
        for size in range(8):
            self.assertIs(is_group(size, ()), True)

    def test_truths_are_no_people(self):
        for thing in ((True,), (False,), (False, True), (0, True), (False, 1), (0, 1, True), (True, 2)):
            self.assertIs(is_group(7, thing), False, thing)

    def test_not_ascending_or_not_different(self):
        for thing in ((1, 0), (0, 0), (0, 2, 1), (3, 3), (0, 1, 1), (6, 5, 4)):
            self.assertIs(is_group(7, thing), False, thing)

    def test_people_outside_the_size(self):
        for size in range(8):
            for thing in ((-1,), (-1, 0), (size,), (size + 1,), (-size - 1,), tuple(range(size + 1))):
                self.assertIs(is_group(size, thing), False, (size, thing))

    def test_a_list_is_none(self):
        for thing in ([], [0], [0, 1]):
            self.assertIs(is_group(7, thing), False)

    def test_any_other_value(self):
        for size in range(8):
            for thing in odd_values():
                if not (isinstance(thing, tuple) and thing in all_groups(size)):
                    self.assertIs(is_group(size, thing), False, thing)
        for thing in odd_values():
            self.assertIs(is_group(7, thing), False, thing)


class GroupsTest(unittest.TestCase):

    def test_all_groups_in_order(self):
        self.assertEqual(groups(0), [()])
        self.assertEqual(groups(3), [(), (0,), (1,), (2,), (0, 1), (0, 2), (1, 2), (0, 1, 2)])
        for size in range(8):
            self.assertTrue(same_kind(groups(size), all_groups(size)))

    def test_all_parts_in_order(self):
        self.assertEqual(parts(()), [()])
        self.assertEqual(parts((2, 5)), [(), (2,), (5,), (2, 5)])
        for group in all_groups(7):
            self.assertTrue(same_kind(parts(group), parts_of(group)))

    def test_lists_are_new(self):
        groups(3).clear()
        self.assertEqual(len(groups(3)), 8)
        self.assertIsNot(groups(0), groups(0))
        parts((0, 1)).append(7)
        self.assertEqual(len(parts((0, 1))), 4)
        self.assertIsNot(parts(()), parts(()))

    def test_together_and_apart(self):
        self.assertEqual(together((0, 3), (1, 3)), (0, 1, 3))
        self.assertEqual(apart((0, 1, 3), (1, 2)), (0, 3))
        for one in all_groups(5) + [(0, 1, 2, 3, 4, 5, 6), (6,), (2, 6)]:
            for other in all_groups(5) + [(0, 1, 2, 3, 4, 5, 6), (5,)]:
                self.assertTrue(same_kind(together(one, other), union(one, other)))
                self.assertTrue(same_kind(apart(one, other), minus(one, other)))


if __name__ == "__main__":
    unittest.main()
