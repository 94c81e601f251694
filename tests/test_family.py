"""[2], [3], [4], [30], [31]: families and their operators."""

import unittest
from itertools import permutations

from crewlists.errors import BadCrew, CrewError, NoCrew, NoExchange, TooMany, Uneven, Unlike, Wrong
from crewlists.family import Family
from crewlists.jobs import Jobs
from helpers import (
    LINES, PAIRS, all_families, all_groups, crew_sets, few_families, few_lists, large_families, minus, nested,
    odd_values, parts_of, random_lists, same_kind, slow_fault, slow_part_of_crews, slow_placeable, union,
)

JOBS = Jobs(4, [(0, 1), (1, 2, 3), (1,)])
FAMILY = Family.of(JOBS)


def placed(family):
    """Return the parts of the crews, in order."""
    found = {part for crew in family.crews for part in parts_of(crew)}
    return [group for group in all_groups(family.size) if group in found]


class ConstructorTest(unittest.TestCase):

    def assert_error(self, kind, fields, size, crews):
        with self.assertRaises(CrewError) as caught:
            Family(size, crews)
        self.assertIs(caught.exception.__class__, kind)
        self.assertTrue(same_kind(vars(caught.exception), fields))

    def test_attributes(self):
        family = Family(3, [(1, 2), (0, 1)])
        self.assertTrue(same_kind(family.size, 3))
        self.assertTrue(same_kind(family.crews, ((0, 1), (1, 2))))
        self.assertTrue(same_kind(family.full, 2))
        self.assertTrue({"size", "crews", "full"} <= set(vars(family)))

    def test_least_families(self):
        for size in range(8):
            family = Family(size, [()])
            self.assertEqual((family.size, family.crews, family.full, list(family)), (size, ((),), 0, [()]))
        whole = tuple(range(7))
        self.assertEqual(Family(7, [whole]).full, 7)

    def test_wrong_size(self):
        for size in odd_values():
            self.assert_error(Wrong, {"place": 0}, size, [()])
            self.assert_error(Wrong, {"place": 0}, size, None)
        self.assert_error(Wrong, {"place": 0}, FAMILY, FAMILY)
        self.assert_error(Wrong, {"place": 0}, 8, [])

    def test_wrong_crews(self):
        for crews in odd_values() + [FAMILY, JOBS]:
            if not isinstance(crews, (list, tuple)) or len(crews) > 100:
                self.assert_error(Wrong, {"place": 1}, 7, crews)

    def test_a_hundred_crews_and_one_more(self):
        self.assertEqual(Family(2, [(0,), (1,)] * 50).crews, ((0,), (1,)))
        self.assertEqual(Family(2, ((0,), (1,)) * 50).crews, ((0,), (1,)))
        for crews in ([(0,)] * 101, ((0,),) * 101, [None] * 101):
            self.assert_error(Wrong, {"place": 1}, 2, crews)

    def test_bad_crew(self):
        for crew in odd_values() + [FAMILY, JOBS, (0, 3), (2, 1), (True,), [0], []]:
            self.assert_error(BadCrew, {"at": 0}, 3, [crew])
            self.assert_error(BadCrew, {"at": 2}, 3, ((0,), (1, 2), crew, None))
        self.assert_error(BadCrew, {"at": 99}, 3, [(0,)] * 99 + [nested(18)])
        self.assert_error(BadCrew, {"at": 0}, 0, [(0,)])

    def test_no_crew(self):
        for size in range(8):
            self.assert_error(NoCrew, {}, size, [])
            self.assert_error(NoCrew, {}, size, ())

    def test_uneven(self):
        self.assert_error(Uneven, {"at": 1}, 3, [(), (0,)])
        self.assert_error(Uneven, {"at": 2}, 4, [(0, 1), (2, 3), (0,), ()])
        self.assert_error(Uneven, {"at": 1}, 4, ((0,), (0, 1), (2, 3)))

    def test_errors_in_their_order(self):
        self.assert_error(BadCrew, {"at": 3}, 4, [(0, 1), (2, 3), (0,), (4,)])
        self.assert_error(BadCrew, {"at": 2}, 4, [(0, 1), (2, 3), [0]])
        self.assert_error(Uneven, {"at": 2}, 4, [(0, 1), (2, 3), (0,)])

    def test_no_exchange(self):
        self.assert_error(NoExchange, {"one": (0, 1), "other": (2, 3), "person": 0}, 4, [(2, 3), (0, 1)])
        self.assert_error(NoExchange, {"one": (0, 1), "other": (2, 3), "person": 1}, 4, [(2, 3), (0, 1), (1, 2)])
        self.assert_error(
            NoExchange, {"one": (0, 3), "other": (1, 2), "person": 0}, 4, [(1, 2), (0, 1), (0, 2), (0, 3)],
        )

    def test_every_list_of_crews_against_a_slow_look(self):
        for size in range(6):
            for many in range(size + 1):
                for crews in crew_sets(size, many):
                    fault = slow_fault(crews)
                    if fault is None:
                        self.assertEqual(Family(size, crews).crews, tuple(crews))
                    else:
                        fields = {"one": fault[0], "other": fault[1], "person": fault[2]}
                        self.assert_error(NoExchange, fields, size, crews[::-1])

    def test_any_order_and_twice(self):
        crews = [(0, 1), (0, 2), (1, 2)]
        for order in permutations(crews):
            self.assertEqual(Family(3, list(order) + [order[0], order[2]]).crews, tuple(crews))
            self.assertEqual(Family(3, order).crews, tuple(crews))

    def test_copies_what_it_is_given(self):
        crews = [(1,), (0,)]
        family = Family(2, crews)
        self.assertEqual(crews, [(1,), (0,)])
        crews[0] = (0, 1)
        crews.append(None)
        self.assertEqual((family.crews, list(family)), (((0,), (1,)), [(), (0,), (1,)]))


class ContentsTest(unittest.TestCase):

    def test_iteration_length_and_membership(self):
        for family in few_families():
            found = placed(family)
            self.assertTrue(same_kind(list(family), found))
            self.assertEqual(len(family), len(found))
            for group in all_groups(7):
                self.assertIs(group in family, group in found)

    def test_two_walks(self):
        pairs = [(one, other) for one in FAMILY for other in FAMILY]
        self.assertEqual(len(pairs), len(FAMILY) ** 2)

    def test_membership_of_any_value(self):
        family = Family.uniform(7, 7)
        for thing in odd_values() + [(True,), (0, True), [0], [], {0: 1}, (7,), FAMILY, JOBS, ([],), ({},)]:
            self.assertIs(thing in family, False)
        for thing in ((), (0,), (1,), (0, 1)):
            self.assertIs(thing in family, True)
        self.assertIs((0, 1) in Family.uniform(2, 1), False)
        self.assertIs((False,) in Family.uniform(2, 1), False)

    def test_strength(self):
        for family in few_families():
            for group in all_groups(family.size):
                self.assertTrue(same_kind(family.strength(group), slow_part_of_crews(family, group)))

    def test_equality(self):
        one = Family(3, [(0,), (1,)])
        self.assertIs(one == Family(3, ((1,), (0,), (0,))), True)
        self.assertIs(one != Family(3, ((1,), (0,), (0,))), False)
        for other in (Family(2, [(0,), (1,)]), Family(3, [(0,)]), Family(3, [()])):
            self.assertIs(one == other, False)
            self.assertIs(one != other, True)

    def test_nothing_else_is_equal(self):
        for thing in odd_values() + [Jobs(1, [(0,)]), ((0,),), [(0,)], (1, ((0,),))]:
            self.assertIs(Family(1, [(0,)]) == thing, False)
            self.assertIs(thing == Family(1, [(0,)]), False)

    def test_renamed(self):
        self.assertEqual(FAMILY.renamed((3, 2, 1, 0)).crews, ((0, 2, 3), (1, 2, 3)))
        self.assertEqual(FAMILY.renamed([1, 2, 3, 0]).crews, ((0, 1, 2), (1, 2, 3)))
        self.assertEqual(Family(0, [()]).renamed(()), Family(0, [()]))
        for family in few_families():
            order = tuple(range(1, family.size)) + (0,) if family.size else ()
            found = family.renamed(order)
            crews = {tuple(sorted(order[person] for person in crew)) for crew in family.crews}
            self.assertEqual((found.size, set(found.crews)), (family.size, crews))


class MakersTest(unittest.TestCase):

    def test_of_jobs(self):
        for jobs in few_lists() + random_lists(11, 30, 5):
            family = Family.of(jobs)
            self.assertIsInstance(family, Family)
            self.assertEqual((family.size, list(family)), (jobs.size, slow_placeable(jobs)))
            self.assertEqual(family.full, abs(jobs))

    def test_of_jobs_at_the_edges(self):
        self.assertEqual(Family.of(Jobs(0, [])), Family(0, [()]))
        self.assertEqual(Family.of(Jobs(7, [()] * 7)), Family(7, [()]))
        self.assertEqual(Family.of(Jobs.everyone(7, 7)), Family(7, [tuple(range(7))]))

    def test_off_a_family(self):
        self.assertEqual(PAIRS.of(JOBS), FAMILY)
        self.assertEqual(PAIRS.uniform(2, 1), Family(2, [(0,), (1,)]))

    def test_uniform(self):
        for size in range(8):
            for many in range(size + 1):
                family = Family.uniform(size, many)
                crews = [group for group in all_groups(size) if len(group) == many]
                self.assertEqual((family.size, family.full, list(family.crews)), (size, many, crews))


class OperatorsTest(unittest.TestCase):

    def setUp(self):
        self.small = [family for size in range(4) for family in all_families(size)]
        self.four = all_families(4)[::5]

    def assert_stays(self, family, deed):
        before = (family.size, family.crews, family.full, list(family))
        found = deed(family)
        self.assertEqual((family.size, family.crews, family.full, list(family)), before)
        self.assertIsInstance(found, Family)
        return found

    def assert_plus(self, one, other):
        found = self.assert_stays(one, lambda family: family + other)
        placeable = {union(a, b) for a in one for b in other}
        self.assertEqual((found.size, set(found)), (one.size, placeable))

    def test_plus(self):
        for one in self.small + self.four:
            for other in self.small + self.four:
                if one.size == other.size:
                    self.assert_plus(one, other)
                else:
                    with self.assertRaises(Unlike):
                        one + other

    def test_plus_of_large_families(self):
        for one in large_families():
            for other in (Family.uniform(7, 1), Family.uniform(6, 2), one):
                if one.size == other.size:
                    self.assert_plus(one, other)
        whole = Family.uniform(7, 7)
        self.assertEqual(whole + whole, whole)
        self.assertEqual(Family(7, [()]) + whole, whole)
        self.assertEqual(Family(7, [()]) + Family(7, [()]), Family(7, [()]))

    def test_side_by_side(self):
        for one in self.small + self.four:
            for other in self.small:
                found = self.assert_stays(one, lambda family: family | other)
                crews = {a + tuple(person + one.size for person in b) for a in one.crews for b in other.crews}
                self.assertEqual((found.size, set(found.crews)), (one.size + other.size, crews))
        nobody = Family(0, [()])
        for family in large_families():
            self.assertEqual(family | nobody, family)
            self.assertEqual(nobody | family, family)

    def test_side_by_side_too_many(self):
        for one, other in ((7, 1), (1, 7), (4, 4), (7, 7)):
            with self.assertRaises(TooMany) as caught:
                Family.uniform(one, 1) | Family.uniform(other, 0)
            self.assertEqual(caught.exception.limit, 7)
        self.assertEqual((Family.uniform(3, 0) | Family.uniform(4, 0)).crews, ((),))

    def test_without_people(self):
        for family in few_families():
            for group in all_groups(family.size)[::3] + [tuple(range(family.size))]:
                stay = minus(range(family.size), group)
                found = self.assert_stays(family, lambda asked: asked - group)
                self.assertEqual(found.size, len(stay))
                old = {tuple(stay[person] for person in part) for part in found}
                self.assertEqual(old, {part for part in placed(family) if not set(part) & set(group)})

    def test_past_a_group(self):
        for family in few_families():
            for group in all_groups(family.size)[::3] + [tuple(range(family.size))]:
                stay = minus(range(family.size), group)
                found = self.assert_stays(family, lambda asked: asked // group)
                self.assertEqual(found.size, len(stay))
                passed = slow_part_of_crews(family, group)
                for part in all_groups(len(stay)):
                    old = union(group, [stay[person] for person in part])
                    self.assertEqual(found.strength(part), slow_part_of_crews(family, old) - passed)

    def test_without_and_past_nobody(self):
        for family in few_families():
            self.assertEqual(family - (), family)
            self.assertEqual(family // (), family)

    def test_turned_around(self):
        for family in few_families():
            found = self.assert_stays(family, lambda asked: ~asked)
            self.assertEqual(set(found.crews), {minus(range(family.size), crew) for crew in family.crews})
            self.assertEqual(found.size, family.size)
            self.assertEqual(~found, family)

    def test_capped(self):
        for family in few_families():
            for limit in (0, 1, 2, 3, 4, 7, 8, 1000):
                found = self.assert_stays(family, lambda asked: asked.capped(limit))
                self.assertEqual(found.size, family.size)
                self.assertEqual(list(found), [group for group in placed(family) if len(group) <= limit])

    def test_nobody_at_all(self):
        nobody = Family(0, [()])
        for found in (nobody + nobody, nobody | nobody, nobody - (), nobody // (), ~nobody, nobody.capped(0)):
            self.assertEqual(found, nobody)

    def test_seven_people(self):
        whole, none = Family.uniform(7, 7), Family.uniform(7, 0)
        everyone = tuple(range(7))
        self.assertEqual([~whole, ~none, whole.capped(0), whole.capped(1000)], [none, whole, none, whole])
        self.assertEqual([whole - everyone, whole // everyone, none // everyone], [Family(0, [()])] * 3)
        self.assertEqual([LINES - (0,), LINES // (0,)], [Family.uniform(6, 3), PAIRS])


class ExampleTest(unittest.TestCase):

    def test_the_example(self):
        self.assertEqual(
            [
                FAMILY.crews, FAMILY.strength((2, 3)), (FAMILY // (1,)).crews, (FAMILY - (1,)).crews,
                (~FAMILY).crews,
            ],
            [((0, 1, 2), (0, 1, 3)), 1, ((0, 1), (0, 2)), ((0, 1), (0, 2)), ((2,), (3,))],
        )
        self.assertEqual((Family.uniform(3, 1) + Family.uniform(3, 1)).crews, ((0, 1), (0, 2), (1, 2)))


if __name__ == "__main__":
    unittest.main()
