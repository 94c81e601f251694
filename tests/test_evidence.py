"""[3], [4], [70]: evidence."""

import unittest

from crewlists.errors import BadSighting, TooMany, Wrong
from crewlists.evidence import Evidence
from crewlists.family import Family
from crewlists.jobs import Jobs
from crewlists.reasons import is_explained
from crewlists.rolls import Roll
from helpers import (
    LINES, PAIRS, all_families, all_groups, drawn, large_families, nested, odd_values, parts_of, same_kind,
    unexplained_families,
)

SIGHTINGS = (((0, 1), True), ((2,), False), ((), True), ((2,), False))
EVIDENCE = Evidence(3, SIGHTINGS, 1)


class ConstructorTest(unittest.TestCase):

    def assert_wrong(self, place, *given):
        with self.assertRaises(Wrong) as caught:
            Evidence(*given)
        self.assertTrue(same_kind(caught.exception.place, place))

    def assert_bad(self, at, *given):
        with self.assertRaises(BadSighting) as caught:
            Evidence(*given)
        self.assertTrue(same_kind(caught.exception.at, at))

    def test_attributes(self):
        self.assertTrue(same_kind(EVIDENCE.size, 3))
        self.assertTrue(same_kind(EVIDENCE.sightings, SIGHTINGS))
        self.assertTrue(same_kind(EVIDENCE.wrong, 1))
        self.assertEqual(set(vars(EVIDENCE)) >= {"size", "sightings", "wrong"}, True)

    def test_wrong_is_0_by_default(self):
        self.assertTrue(same_kind(Evidence(3, SIGHTINGS).wrong, 0))
        self.assertEqual(Evidence(3, SIGHTINGS), Evidence(3, SIGHTINGS, 0))

    def test_every_size_and_group(self):
        for size in range(7):
            for truth in (True, False):
                groups = all_groups(size)
                for first in range(0, len(groups), 40):
                    rows = [(group, truth) for group in groups[first:first + 40]]
                    self.assertEqual(Evidence(size, rows, 40).sightings, tuple(rows))

    def test_wrong_size(self):
        for size in odd_values() + [(), 7, -1, "3", 10 ** 30, SIGHTINGS, EVIDENCE]:
            self.assert_wrong(0, size, [])
            self.assert_wrong(0, size, None, None)
            self.assert_wrong(0, size, [None], 41)

    def test_wrong_sightings(self):
        for rows in odd_values() + [EVIDENCE, Roll(3, []), "", {}, 3, {((), True): 0}]:
            if not isinstance(rows, (list, tuple)) or len(rows) > 40:
                self.assert_wrong(1, 6, rows)
                self.assert_wrong(1, 0, rows, None)

    def test_wrong_count_of_wrong_ones(self):
        # Of the odd values, just 8 is such a count.
        bad = [wrong for wrong in odd_values() if not same_kind(wrong, 8)]
        for wrong in bad + [41, -1, "0", (), EVIDENCE]:
            self.assert_wrong(2, 3, SIGHTINGS, wrong)
            self.assert_wrong(2, 3, [None], wrong)
        for wrong in range(41):
            self.assertEqual(Evidence(0, [], wrong).wrong, wrong)

    def test_forty_and_forty_one_sightings(self):
        for rows in ([((0,), True)] * 40, tuple([((), False)] * 40)):
            self.assertEqual(len(Evidence(1, rows)), 40)
            self.assert_wrong(1, 1, rows + rows[:1])
        self.assert_wrong(1, 1, [None] * 41)
        self.assert_bad(0, 1, [None] * 40)

    def test_two_at_once(self):
        self.assert_wrong(0, 7, [None] * 41, 41)
        self.assert_wrong(0, True, SIGHTINGS, True)
        self.assert_wrong(1, 3, None, 41)
        self.assert_wrong(1, 3, [None] * 41, None)
        self.assert_wrong(2, 3, [None, None], -1)

    def test_bad_sightings(self):
        bad = odd_values() + [
            (), ((),), ((), True, True), ((0,), 1), ((0,), 0), ((0,), None), ((0,), "True"), ((0,), (True,)),
            [(0,), True], ([0], True), ((1, 0), True), ((0, 0), True), ((3,), True), ((0, 3), False), ((-1,), True),
            (0, True), (True, (0,)), ((False, 1), True), ((True,), False), (None, True), ("a", True), ((0,), nested(18)),
            ({}, True), ((0,), True, None), EVIDENCE, (EVIDENCE, True), ((0,), EVIDENCE), b"ab", "ab", {(0,): True},
        ]
        for sighting in bad:
            self.assert_bad(0, 3, [sighting])
            self.assert_bad(0, 3, (sighting, None), 40)
            self.assert_bad(2, 3, [((0,), True), ((), False), sighting, ((0,), True), sighting])
            self.assert_bad(39, 3, [((0, 1, 2), False)] * 39 + [sighting])

    def test_groups_beyond_the_size(self):
        for size in range(7):
            self.assert_bad(1, size, [((), True), ((size,), True)])
            self.assert_bad(0, size, [(tuple(range(size + 1)), False)])

    def test_arguments_by_position(self):
        with self.assertRaises(TypeError):
            Evidence(3)
        with self.assertRaises(TypeError):
            Evidence(3, [], 0, 0)

    def test_a_list_that_is_changed_afterwards(self):
        rows = list(SIGHTINGS)
        found = Evidence(3, rows)
        rows.append(((), True))
        rows[0] = None
        self.assertEqual(found.sightings, SIGHTINGS)
        self.assertIsInstance(found.sightings, tuple)


class EqualTest(unittest.TestCase):

    def test_equal(self):
        self.assertIs(EVIDENCE == Evidence(3, list(SIGHTINGS), 1), True)
        self.assertIs(Evidence(0, []) == Evidence(0, ()), True)
        self.assertIs(EVIDENCE != Evidence(3, SIGHTINGS, 1), False)

    def test_unequal(self):
        changed = SIGHTINGS[:1] + (((2,), True),) + SIGHTINGS[2:]
        others = [
            Evidence(4, SIGHTINGS, 1), Evidence(3, SIGHTINGS), Evidence(3, SIGHTINGS, 2), Evidence(3, changed, 1),
            Evidence(3, SIGHTINGS[:3], 1), Evidence(3, SIGHTINGS[::-1], 1), Evidence(3, [], 1), EVIDENCE + ((), True),
        ]
        for other in others:
            self.assertIs(EVIDENCE == other, False)
            self.assertIs(other == EVIDENCE, False)
            self.assertIs(EVIDENCE != other, True)

    def test_nothing_else(self):
        empty = Evidence(0, [])
        for thing in odd_values() + [SIGHTINGS, (3, SIGHTINGS, 1), Jobs(3, []), Roll(0, []), Family(0, [()])]:
            for evidence in (EVIDENCE, empty):
                self.assertIs(evidence == thing, False)
                self.assertIs(thing == evidence, False)


class PlusTest(unittest.TestCase):

    def test_one_more_the_last(self):
        found = Evidence(6, [], 40)
        rows = drawn(131, 6, 40)
        for at, sighting in enumerate(rows):
            self.assertEqual(len(found), at)
            before = found.sightings
            longer = found + sighting
            self.assertIsInstance(longer, Evidence)
            self.assertTrue(same_kind((longer.size, longer.wrong), (6, 40)))
            self.assertTrue(same_kind(longer.sightings, tuple(rows[:at + 1])))
            self.assertTrue(same_kind(found.sightings, before))
            found = longer
        self.assertEqual(found, Evidence(6, rows, 40))

    def test_forty(self):
        for evidence in (Evidence(6, drawn(132, 6, 40)), Evidence(0, [((), False)] * 40, 40)):
            with self.assertRaises(TooMany) as caught:
                evidence + ((), True)
            self.assertTrue(same_kind(caught.exception.limit, 40))
            self.assertEqual(len(evidence), 40)
        self.assertEqual(len(Evidence(0, [((), False)] * 39) + ((), True)), 40)


class AgainstTest(unittest.TestCase):

    def test_each_sighting(self):
        families = [family for size in range(4) for family in all_families(size)] + all_families(5)[::40]
        families += [family for family in large_families() if family.size == 6]
        for family in families:
            placed = {part for crew in family.crews for part in parts_of(crew)}
            evidence = Evidence(family.size, drawn(family.size, family.size, 40))
            expected = [at for at, (group, truth) in enumerate(evidence.sightings) if (group in placed) is not truth]
            self.assertTrue(same_kind(evidence.against(family), tuple(expected)))
            self.assertEqual(evidence.against(family), evidence.against(family))

    def test_edges(self):
        self.assertEqual(Evidence(0, []).against(Family(0, [()])), ())
        self.assertEqual(Evidence(0, [((), True), ((), False)]).against(Family(0, [()])), (1,))
        self.assertEqual(Evidence(6, [((5,), True)] * 40).against(Family.uniform(6, 0)), tuple(range(40)))
        self.assertEqual(EVIDENCE.against(Family.uniform(3, 1)), (0, 1, 3))

    def test_without_an_explanation(self):
        evidence = Evidence(6, [((0, 1), False), ((0, 2), True), ((2, 3), True), ((0, 1, 2), True)])
        self.assertEqual(evidence.against(PAIRS), (2, 3))


class FitsTest(unittest.TestCase):

    def test_as_many_wrong_ones_as_are_allowed(self):
        counts = [0, 0]
        for family in all_families(3) + all_families(4)[::6]:
            rows = drawn(133, family.size, 6)
            many = len(Evidence(family.size, rows).against(family))
            for wrong in range(8):
                self.assertIs(Evidence(family.size, rows, wrong).fits(family), many <= wrong)
                counts[many <= wrong] += 1
        self.assertGreater(min(counts), 30)

    def test_no_sightings(self):
        for size in range(5):
            for family in all_families(size)[::5]:
                self.assertIs(Evidence(size, []).fits(family), True)

    def test_without_an_explanation(self):
        for family in unexplained_families():
            if family.size == 6:
                self.assertIs(is_explained(family), False)
                truths = [(group, group in family) for group in all_groups(6)[:40]]
                self.assertEqual(Evidence(6, truths).against(family), ())
                self.assertIs(Evidence(6, truths).fits(family), False)
                self.assertIs(Evidence(6, [], 40).fits(family), False)
                self.assertIs(Evidence(6, truths, 40).fits(family), False)

    def test_another_size(self):
        for size in range(7):
            for other in range(8):
                self.assertIs(Evidence(size, [((), True)], 40).fits(Family.uniform(other, 0)), size == other)
        # The sightings are of groups that the smaller family does not have.
        self.assertIs(Evidence(4, [((3,), True)]).fits(Family.uniform(3, 1)), False)
        self.assertIs(Evidence(4, [((3,), False)], 40).fits(Family.uniform(3, 1)), False)
        self.assertIs(Evidence(6, []).fits(LINES), False)

    def test_evidence_and_families_stay(self):
        family = Family.uniform(3, 2)
        crews = family.crews
        EVIDENCE.against(family), EVIDENCE.fits(family)
        self.assertEqual(EVIDENCE, Evidence(3, SIGHTINGS, 1))
        self.assertEqual(family.crews, crews)


if __name__ == "__main__":
    unittest.main()
