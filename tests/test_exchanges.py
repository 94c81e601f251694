"""[2], [3], [16], [81]: exchanges of the members of crews."""

import unittest

from crewlists.exchanges import at_once, both_ways, ins, outs, pairing, path
from crewlists.family import Family
from crewlists.jobs import Jobs
from helpers import (
    LINES, PAIRS, all_families, few_lists, grown, job_lists, large_families, minus, parts_of, random_lists, same_kind,
    slow_greatest, unexplained_families, union,
)


def families():
    """Return families of every kind up to seven people, some without an explanation."""
    found = [family for size in range(5) for family in all_families(size)] + all_families(5)[::30]
    return found + large_families() + unexplained_families()


def pairs(crews):
    """Return pairs of crews: all of few crews, some of many; of equal ones too."""
    step = 1 + len(crews) // 6
    return [(one, other) for one in crews[::step] for other in crews]


def put(crew, person, newcomer):
    """Return the crew with the newcomer in the place of the person."""
    return union(minus(crew, (person,)), (newcomer,))


class InsAndOutsTest(unittest.TestCase):

    def test_ins_against_all_people(self):
        for family in families():
            for crew in family.crews:
                for person in crew:
                    right = [
                        other for other in range(family.size)
                        if other not in crew and put(crew, person, other) in family.crews
                    ]
                    self.assertTrue(same_kind(ins(family, crew, person), tuple(right)))

    def test_outs_against_all_members(self):
        for family in families():
            for crew in family.crews:
                for newcomer in minus(range(family.size), crew):
                    right = [person for person in crew if put(crew, person, newcomer) in family.crews]
                    self.assertTrue(same_kind(outs(family, crew, newcomer), tuple(right)))

    def test_edges(self):
        self.assertEqual(ins(Family.uniform(2, 2), (0, 1), 0), ())
        self.assertEqual(ins(Family.uniform(3, 1), (1,), 1), (0, 2))
        self.assertEqual(outs(Family.uniform(3, 2), (0, 2), 1), (0, 2))
        self.assertEqual(outs(Family(3, [(0, 1)]), (0, 1), 2), ())
        self.assertEqual(ins(Family(3, [(0, 1), (0, 2)]), (0, 1), 0), ())
        self.assertEqual(ins(PAIRS, (0, 2), 0), (1, 4, 5))
        self.assertEqual(outs(PAIRS, (0, 2), 1), (0,))


class BothWaysTest(unittest.TestCase):

    def test_against_all_people_and_never_empty(self):
        for family in families():
            for one, other in pairs(family.crews):
                for person in minus(one, other):
                    right = [
                        newcomer for newcomer in minus(other, one)
                        if put(one, person, newcomer) in family.crews and put(other, newcomer, person) in family.crews
                    ]
                    found = both_ways(family, one, other, person)
                    self.assertTrue(same_kind(found, tuple(right)))
                    self.assertNotEqual(found, ())

    def test_one_way_is_not_enough(self):
        family = Family(4, [(0, 1), (0, 2), (0, 3), (1, 2), (1, 3)])
        self.assertEqual(ins(family, (0, 1), 0), (2, 3))
        self.assertEqual(both_ways(family, (0, 2), (1, 3), 2), (3,))
        self.assertEqual(ins(family, (0, 2), 2), (1, 3))


class PairsTest(unittest.TestCase):

    def assert_pairs(self, found, one, other):
        """Assert that these are pairs of those in one alone, ascending, with different ones in other alone."""
        self.assertIsInstance(found, list)
        self.assertTrue(all(pair.__class__ is tuple and len(pair) == 2 for pair in found))
        self.assertEqual(tuple(a for a, _ in found), minus(one, other))
        self.assertEqual(tuple(sorted(b for _, b in found)), minus(other, one))


class PairingTest(PairsTest):

    def test_each_two_crews(self):
        # Sometimes two of those who leave would take the same newcomer first.
        met = 0
        for family in families():
            for one, other in pairs(family.crews):
                found = pairing(family, one, other)
                self.assert_pairs(found, one, other)
                for a, b in found:
                    self.assertIn(put(one, a, b), family.crews)
                firsts = {min(b for b in ins(family, one, a) if b in other) for a in minus(one, other)}
                met += len(firsts) < len(found)
        self.assertGreater(met, 100)

    def test_where_the_first_choice_leads_nowhere(self):
        # Either of 2 and 3 can come for 0, just 2 for 1.
        family = Family(4, [(0, 1), (0, 2), (1, 2), (1, 3), (2, 3)])
        self.assertEqual([ins(family, (0, 1), 0), ins(family, (0, 1), 1)], [(2, 3), (2,)])
        self.assertEqual(pairing(family, (0, 1), (2, 3)), [(0, 3), (1, 2)])

    def test_edges(self):
        for family in (Family(0, [()]), Family.uniform(3, 3), PAIRS, LINES):
            for crew in family.crews:
                self.assertEqual(pairing(family, crew, crew), [])
        self.assert_pairs(pairing(Family.uniform(6, 3), (0, 1, 2), (3, 4, 5)), (0, 1, 2), (3, 4, 5))
        self.assert_pairs(pairing(LINES, (0, 1, 3), (2, 4, 5)), (0, 1, 3), (2, 4, 5))

    def test_a_new_list(self):
        pairing(Family.uniform(4, 2), (0, 1), (2, 3)).clear()
        self.assertEqual(len(pairing(Family.uniform(4, 2), (0, 1), (2, 3))), 2)


class AtOnceTest(PairsTest):
    """[16]: any choice of the pairs may be made at once."""

    def all_at_once(self, found, one, crews):
        """Return whether all sets of the pairs may be exchanged at once."""
        return all(
            union(minus(one, [a for a, _ in chosen]), [b for _, b in chosen]) in crews
            for chosen in parts_of(tuple(found))
        )

    def test_each_two_crews(self):
        lists = few_lists()[::3] + job_lists(4, 2)[::4] + job_lists(4, 3)[::9] + random_lists(321, 60)
        lists += [slow_greatest(jobs) for jobs in random_lists(322, 10, 5)]
        lists += [Jobs.everyone(6, 3), Jobs.everyone(7, 3) + Jobs(7, [(0,), (0, 1)]), Jobs(5, [()] * 7), Jobs(0, [])]
        longest = 0
        for jobs in lists:
            placed = grown(jobs)
            crews = [group for group in placed if len(group) == len(placed[-1])]
            for one, other in pairs(crews):
                found = at_once(jobs, one, other)
                self.assert_pairs(found, one, other)
                self.assertTrue(self.all_at_once(found, one, crews))
                longest = max(longest, len(found))
        self.assertEqual(longest, 3)

    def test_pairs_that_are_not_at_once(self):
        # Each of these pairs may be exchanged alone, but not both (0, 3) and (1, 4).
        jobs, one, other = Jobs(6, [(0, 1, 3, 4), (0, 1, 5), (2, 4, 5)]), (0, 1, 2), (3, 4, 5)
        crews = Family.of(jobs).crews
        single = [(0, 3), (1, 4), (2, 5)]
        self.assertEqual([put(one, a, b) in crews for a, b in single], [True] * 3)
        self.assertFalse(self.all_at_once(single, one, crews))
        self.assertTrue(self.all_at_once(at_once(jobs, one, other), one, crews))

    def test_edges(self):
        self.assertEqual(at_once(Jobs(0, []), (), ()), [])
        self.assertEqual(at_once(Jobs(3, [(0, 1)] * 5), (0, 1), (0, 1)), [])
        self.assertEqual(at_once(Jobs(2, [(0, 1)]), (0,), (1,)), [(0, 1)])
        # Person 1 goes over to the job of 0, and 2 takes theirs.
        self.assertEqual(at_once(Jobs(3, [(0, 1), (1, 2)]), (0, 1), (1, 2)), [(0, 2)])
        # Each has a job of their own with just one newcomer.
        jobs = Jobs(6, [(0, 3), (1, 4), (2, 5)])
        self.assertEqual(at_once(jobs, (0, 1, 2), (3, 4, 5)), [(0, 3), (1, 4), (2, 5)])
        self.assertEqual(at_once(jobs, (0, 4, 5), (1, 2, 3)), [(0, 3), (4, 1), (5, 2)])

    def test_a_new_list(self):
        jobs = Jobs.everyone(4, 2)
        at_once(jobs, (0, 1), (2, 3)).clear()
        self.assertEqual(len(at_once(jobs, (0, 1), (2, 3))), 2)


class PathTest(unittest.TestCase):
    """[16]: one crew can be led to the other, one person at a time."""

    def test_each_two_crews(self):
        for family in families():
            for one, other in pairs(family.crews):
                found = path(family, one, other)
                self.assertIsInstance(found, list)
                self.assertEqual((found[0], found[-1]), (one, other))
                self.assertEqual(len(found), 1 + len(minus(one, other)))
                for crew in found:
                    self.assertIn(crew, family.crews)
                    self.assertTrue(same_kind(crew, tuple(sorted(crew))))
                for before, behind in zip(found, found[1:]):
                    self.assertEqual(len(minus(before, behind)), 1)

    def test_edges(self):
        self.assertEqual(path(Family(0, [()]), (), ()), [()])
        self.assertEqual(path(LINES, (0, 1, 3), (0, 1, 3)), [(0, 1, 3)])
        self.assertEqual(path(Family.uniform(3, 1), (0,), (2,)), [(0,), (2,)])

    def test_a_new_list(self):
        path(PAIRS, (0, 2), (0, 2)).clear()
        self.assertEqual(path(PAIRS, (0, 2), (0, 2)), [(0, 2)])


class ArgumentsTest(unittest.TestCase):

    def test_they_stay(self):
        jobs = Jobs.everyone(4, 2)
        family = Family.of(jobs)
        ins(family, (0, 1), 0), outs(family, (0, 1), 2), both_ways(family, (0, 1), (2, 3), 0)
        pairing(family, (0, 1), (2, 3)), path(family, (0, 1), (2, 3)), at_once(jobs, (0, 1), (2, 3))
        self.assertEqual((jobs, family), (Jobs.everyone(4, 2), Family.uniform(4, 2)))


if __name__ == "__main__":
    unittest.main()
