"""[17], [63]: which families differ in the names of the people alone."""

import unittest
from itertools import permutations
from random import Random

from crewlists.family import Family
from crewlists.jobs import Jobs
from crewlists.likeness import renaming, symmetries
from crewlists.reasons import lists_of
from helpers import all_families, in_order, same_kind

FAMILY = Family.of(Jobs(4, [(0, 1), (1, 2, 3), (1,)]))


def called(rows, order):
    """Return the groups in rows with person p called order[p], in order."""
    return tuple(in_order(tuple(sorted(order[person] for person in group)) for group in rows))


def slow_orders(one, other):
    """Return all orders that rename one family into other."""
    if one.size != other.size:
        return []
    return [order for order in permutations(range(one.size)) if called(one.crews, order) == other.crews]


class RenamingTest(unittest.TestCase):

    def assert_renaming(self, one, other):
        orders = slow_orders(one, other)
        found = renaming(one, other)
        self.assertTrue(same_kind(found, orders[0] if orders else None))
        if found is not None:
            self.assertEqual(one.renamed(found), other)
        return found is not None

    def test_all_families_of_at_most_three_people(self):
        families = [family for size in range(4) for family in all_families(size)]
        counts = [0, 0]
        for one in families:
            for other in families:
                counts[self.assert_renaming(one, other)] += 1
        self.assertGreater(min(counts), 40)

    def test_families_of_four_and_five_people(self):
        chance = Random(121)
        for size in (4, 5):
            families = chance.sample(all_families(size), 14)
            for one in families:
                order = chance.sample(range(size), size)
                self.assertTrue(self.assert_renaming(one, one.renamed(order)))
                self.assertTrue(self.assert_renaming(one.renamed(order), one))
                for other in families:
                    self.assert_renaming(one, other)

    def test_other_sizes_and_strengths(self):
        self.assertIsNone(renaming(Family.uniform(3, 0), Family.uniform(4, 0)))
        self.assertIsNone(renaming(Family.uniform(4, 0), Family.uniform(3, 0)))
        self.assertIsNone(renaming(Family.uniform(0, 0), Family.uniform(1, 0)))
        self.assertIsNone(renaming(Family.uniform(5, 2), Family.uniform(5, 3)))
        self.assertIsNone(renaming(Family.uniform(4, 4), Family.uniform(4, 0)))

    def test_fewer_crews(self):
        more, fewer = Family(3, [(0, 1), (0, 2), (1, 2)]), Family(3, [(0, 1), (0, 2)])
        self.assertIsNone(renaming(fewer, more))
        self.assertIsNone(renaming(more, fewer))

    def test_person_p_is_called_as_the_order_says(self):
        self.assertEqual(renaming(Family(3, [(0,)]), Family(3, [(1,)])), (1, 0, 2))
        self.assertEqual(renaming(Family(3, [(0, 1)]), Family(3, [(1, 2)])), (1, 2, 0))
        self.assertEqual(renaming(Family(3, [(2,)]), Family(3, [(0,)])), (1, 2, 0))

    def test_small_sizes(self):
        self.assertEqual(renaming(Family(0, [()]), Family(0, [()])), ())
        self.assertEqual(renaming(Family(1, [()]), Family(1, [()])), (0,))
        self.assertEqual(renaming(Family(1, [(0,)]), Family(1, [(0,)])), (0,))
        self.assertIsNone(renaming(Family(1, [(0,)]), Family(1, [()])))


class SymmetriesTest(unittest.TestCase):

    def test_against_all_orders(self):
        chance = Random(122)
        families = [family for size in range(5) for family in all_families(size)]
        for family in families + chance.sample(all_families(5), 40):
            crews = family.crews
            found = symmetries(family)
            self.assertTrue(same_kind(found, slow_orders(family, family)))
            self.assertEqual(found, sorted(found))
            self.assertEqual(found[0], tuple(range(family.size)))
            self.assertEqual(family.crews, crews)

    def test_edges(self):
        self.assertEqual(symmetries(Family(0, [()])), [()])
        self.assertEqual(symmetries(Family(1, [()])), [(0,)])
        self.assertEqual(symmetries(Family(1, [(0,)])), [(0,)])
        for many in range(6):
            self.assertEqual(symmetries(Family.uniform(5, many)), list(permutations(range(5))))
        self.assertEqual(symmetries(FAMILY), [(0, 1, 2, 3), (0, 1, 3, 2), (1, 0, 2, 3), (1, 0, 3, 2)])

    def test_the_list_is_new(self):
        symmetries(FAMILY).clear()
        self.assertEqual(len(symmetries(FAMILY)), 4)


class GreatestListsTest(unittest.TestCase):
    """The greatest lists of two families are renamed by the same orders."""

    def test_the_same_orders(self):
        chance = Random(123)
        for size in (3, 4):
            families = chance.sample(all_families(size), 12)
            for one in families:
                for other in families + [one.renamed(chance.sample(range(size), size))]:
                    upper, goal = lists_of(one)[1].jobs, lists_of(other)[1].jobs
                    orders = [order for order in permutations(range(size)) if called(upper, order) == goal]
                    self.assertEqual(orders, slow_orders(one, other))
                    self.assertEqual(renaming(one, other), orders[0] if orders else None)


if __name__ == "__main__":
    unittest.main()
