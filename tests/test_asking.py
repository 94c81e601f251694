"""[2], [3], [4], [74]: learning a family by asking."""

import unittest
from itertools import product
from random import Random

from crewlists.asking import Asker, learn
from crewlists.errors import NoFamily
from crewlists.family import Family
from helpers import (
    LINES, PAIRS, all_families, all_groups, large_families, minus, parts_of, random_lists, same_kind,
    unexplained_families, union,
)


def families():
    """Return all families of at most three people, and drawn ones of up to seven."""
    found = [family for size in range(4) for family in all_families(size)]
    found += all_families(4)[::5] + all_families(5)[::60] + large_families() + unexplained_families()
    return found + [Family.of(jobs) for jobs in random_lists(301, 20)]


def has(family, group):
    """Return whether a group is a part of a crew."""
    return any(set(group) <= set(crew) for crew in family.crews)


def asked_for(size, answer):
    """Return the dict of the answers that are asked for, in order."""
    answers = {(): True}
    for group in all_groups(size)[1:]:
        if all(answers.get(minus(group, (person,)), False) for person in group):
            answers[group] = answer(group)
    del answers[()]
    return answers


def slow_fault(size, answer):
    """Return the first groups (one, other) that bar a family, None if there are none."""
    yes = [()] + [group for group, truth in asked_for(size, answer).items() if truth]
    for one in yes:
        for other in yes:
            if len(other) == len(one) + 1:
                if not any(union(one, (person,)) in yes for person in minus(other, one)):
                    return one, other
    return None


class LearnTest(unittest.TestCase):

    def test_with_an_asker(self):
        for family in families():
            asker = Asker(family)
            found = learn(family.size, asker)
            self.assertIsInstance(found, Family)
            self.assertEqual(found, family)
            expected = list(asked_for(family.size, lambda group: has(family, group)))
            self.assertTrue(same_kind(asker.asked, expected))

    def test_with_a_function(self):
        for family in families():
            calls = []

            def ask(group):
                calls.append(group)
                return has(family, group)

            self.assertEqual(learn(family.size, ask), family)
            self.assertEqual(len(set(calls)), len(calls))
            self.assertEqual(calls, sorted(calls, key=lambda group: (len(group), group)))
            self.assertNotIn((), calls)
            for group in all_groups(family.size)[1:]:
                worth_it = all(has(family, minus(group, (person,))) for person in group)
                self.assertEqual(group in calls, worth_it)

    def test_size_0(self):
        def ask(group):
            raise AssertionError(group)

        self.assertEqual(learn(0, ask), Family(0, [()]))
        asker = Asker(Family(0, [()]))
        self.assertEqual(learn(0, asker), Family(0, [()]))
        self.assertEqual(asker.asked, [])

    def test_always_and_never(self):
        for size in range(8):
            self.assertEqual(learn(size, lambda group: True), Family.uniform(size, size))
            self.assertEqual(learn(size, lambda group: False), Family.uniform(size, 0))
        asker = Asker(Family.uniform(7, 0))
        learn(7, asker)
        self.assertEqual(asker.asked, [(person,) for person in range(7)])

    def assert_learnt(self, size, answer):
        """Assert that the answers lead to a family, or to the first fault; return which."""
        calls = []

        def ask(group):
            calls.append(group)
            return answer(group)

        fault = slow_fault(size, answer)
        if fault is None:
            found = learn(size, ask)
            placed = [()] + [group for group, truth in asked_for(size, answer).items() if truth]
            self.assertEqual(list(found), placed)
        else:
            with self.assertRaises(NoFamily) as caught:
                learn(size, ask)
            self.assertTrue(same_kind((caught.exception.one, caught.exception.other), fault))
        # All groups are gone through, whatever the answers are.
        self.assertEqual(calls, list(asked_for(size, answer)))
        return fault is None

    def test_all_functions_of_three_people(self):
        counts = [0, 0]
        for size in range(4):
            groups = all_groups(size)[1:]
            for truths in product((False, True), repeat=len(groups)):
                answers = dict(zip(groups, truths))
                counts[self.assert_learnt(size, lambda group: answers[group])] += 1
        self.assertGreater(min(counts), 3)

    def test_drawn_functions(self):
        chance = Random(302)
        counts = [0, 0]
        for size in (4, 5, 6, 7):
            for _ in range(25):
                likely = chance.choice([1, 3, 6, 9])
                answers = {group: chance.randint(0, 9) < likely or len(group) < 2 for group in all_groups(size)}
                counts[self.assert_learnt(size, lambda group: answers[group])] += 1
        self.assertGreater(counts[False], 20)

    def test_families_spoilt_in_one_group(self):
        chance = Random(303)
        counts = [0, 0]
        for family in families():
            for group in chance.choices(all_groups(family.size), k=3):
                counts[self.assert_learnt(family.size, lambda other: has(family, other) is not (other == group))] += 1
        self.assertGreater(min(counts), 20)

    def test_the_fields(self):
        yes = [(0,), (1,), (2,), (0, 1)]
        with self.assertRaises(NoFamily) as caught:
            learn(3, lambda group: group in yes)
        self.assertTrue(same_kind((caught.exception.one, caught.exception.other), ((2,), (0, 1))))

    def test_families_without_an_explanation(self):
        for family in (PAIRS, LINES):
            self.assertEqual(learn(family.size, Asker(family)), family)


class AskerTest(unittest.TestCase):

    def test_answers_and_notes(self):
        family = Family(3, [(0, 1), (0, 2)])
        asker = Asker(family)
        self.assertTrue(same_kind(asker.asked, []))
        noted = []
        for group in all_groups(3) + [(0, 1), (), (0, 1)]:
            self.assertIs(asker(group), has(family, group))
            noted.append(group)
            self.assertTrue(same_kind(asker.asked, noted))

    def test_every_group(self):
        for family in families():
            asker = Asker(family)
            for group in all_groups(family.size):
                self.assertIs(asker(group), has(family, group))
            self.assertEqual(asker.asked, all_groups(family.size))

    def test_the_list_may_be_changed(self):
        asker = Asker(Family.uniform(3, 1))
        asker((0,))
        found = asker.asked
        found.append((1,))
        found[0] = None
        self.assertEqual(asker.asked, [(0,)])
        self.assertIsNot(asker.asked, asker.asked)
        asker((1, 2))
        self.assertEqual(asker.asked, [(0,), (1, 2)])

    def test_only_read(self):
        asker = Asker(Family.uniform(3, 1))
        with self.assertRaises(AttributeError):
            asker.asked = []
        self.assertIsInstance(Asker.asked, property)

    def test_two_askers_of_one_family(self):
        family = Family.uniform(3, 1)
        one, other = Asker(family), Asker(family)
        one((0, 1))
        self.assertEqual((one.asked, other.asked), ([(0, 1)], []))
        self.assertEqual(family, Family.uniform(3, 1))

    def test_learning_twice_goes_on_noting(self):
        asker = Asker(Family.uniform(2, 1))
        learn(2, asker)
        learn(2, asker)
        self.assertEqual(asker.asked, [(0,), (1,), (0, 1)] * 2)

    def test_placeable_groups_are_parts_of_crews(self):
        asker = Asker(PAIRS)
        for crew in PAIRS.crews:
            for part in parts_of(crew):
                self.assertIs(asker(part), True)
        self.assertIs(asker((0, 1)), False)


if __name__ == "__main__":
    unittest.main()
