"""[14], [17]: what holds for all evidence, and for other names of the people."""

import unittest
from random import Random

from crewlists.cases import settle, walk
from crewlists.evidence import Evidence
from crewlists.family import Family
from crewlists.sure import fitting, least_wrong, sure
from helpers import all_groups, drawn, drawn_evidence, slow_fitting


class SightingsTest(unittest.TestCase):
    """[14]"""

    def setUp(self):
        self.evidence = drawn_evidence(371, 30, 5) + [Evidence(5, []), Evidence(4, [], 40), Evidence(0, [((), False)])]

    def test_a_family_fits_or_a_walk_shows_that_none_does(self):
        counts = [0, 0]
        for evidence in self.evidence:
            rows = walk(evidence, most=20000)
            fits = any(row[0] == "fits" for row in rows)
            self.assertEqual(fits, slow_fitting(evidence) != [])
            self.assertEqual(settle(evidence, most=20000)[0], "jobs" if fits else "none")
            counts[fits] += 1
        self.assertGreater(min(counts), 5)

    def test_all_that_fit_each_once(self):
        for evidence in self.evidence:
            found = [row[1] for row in walk(evidence, most=20000) if row[0] == "fits"]
            self.assertEqual(sorted(found), sorted(slow_fitting(evidence)))
            self.assertEqual(len(set(found)), len(found))
            for crews in found:
                self.assertIs(evidence.fits(Family(evidence.size, crews)), True)


class RenamingTest(unittest.TestCase):
    """[17]"""

    def setUp(self):
        chance = Random(372)
        evidence = drawn_evidence(373, 40) + [Evidence(size, drawn(size, size, 9), 2) for size in range(5)]
        self.rows = []
        for one in evidence:
            order = chance.sample(range(one.size), one.size)
            renamed = [(self.called(group, order), truth) for group, truth in one.sightings]
            self.rows.append((one, Evidence(one.size, renamed, one.wrong), order))

    def called(self, group, order):
        return tuple(sorted(order[person] for person in group))

    def test_settle_and_least_wrong(self):
        for one, other, _ in self.rows:
            self.assertEqual(settle(one)[0], settle(other)[0])
            self.assertEqual(least_wrong(one)[0], least_wrong(other)[0])

    def test_sure(self):
        for one, other, order in self.rows:
            for group in all_groups(one.size)[1::2]:
                self.assertEqual(sure(one, group)[0], sure(other, self.called(group, order))[0])

    def test_the_families_that_fit(self):
        for one, other, order in self.rows:
            renamed = [family.renamed(order).crews for family in fitting(one)]
            self.assertEqual(sorted(renamed), sorted(family.crews for family in fitting(other)))


if __name__ == "__main__":
    unittest.main()
