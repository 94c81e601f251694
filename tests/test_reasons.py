"""[5], [41]: whether a family has an explanation, and which answers are right."""

import unittest
from itertools import permutations

from crewlists.family import Family
from crewlists.jobs import Jobs
from crewlists.reasons import is_answer, is_explained, lists_of
from helpers import (
    LINES, PAIRS, all_families, all_groups, few_families, few_lists, minus, nested, odd_values, random_lists,
    same_kind, slow_above, slow_part_of_crews, slow_placeable, slow_weights,
)

FAMILY = Family.of(Jobs(4, [(0, 1), (1, 2, 3), (1,)]))


def slow_answer(family):
    """Return the answer by the slow sums."""
    weighed = slow_weights(family)
    for knot, weight in weighed:
        if weight < 0:
            return "below", knot, weight
    for group in all_groups(family.size):
        total = sum(weight for knot, weight in weighed if set(group) <= set(knot))
        if total > family.full - slow_part_of_crews(family, group):
            return "over", group, total
    jobs = [minus(range(family.size), knot) for knot, weight in weighed for _ in range(weight)]
    return "jobs", Jobs(family.size, sorted(jobs, key=lambda job: (len(job), job)))


class ListsOfTest(unittest.TestCase):

    def test_against_slow_sums(self):
        for family in few_families():
            self.assertTrue(same_kind(lists_of(family), slow_answer(family)))
            self.assertIs(is_explained(family), slow_answer(family)[0] == "jobs")

    def test_the_jobs_explain_the_family(self):
        explained = 0
        for family in few_families():
            answer = lists_of(family)
            if answer[0] == "jobs":
                self.assertEqual(slow_placeable(answer[1]), list(family))
                self.assertEqual(len(answer[1]), family.full)
                explained += 1
        self.assertGreater(explained, 90)

    def test_what_comes_from_jobs_is_explained(self):
        for jobs in few_lists() + random_lists(13, 40):
            self.assertIs(is_explained(Family.of(jobs)), True)

    def test_a_weight_below_0(self):
        self.assertEqual(lists_of(PAIRS), ("below", (), -1))
        # The first such knot is not always nobody: here person 6 is idle.
        self.assertEqual(lists_of(PAIRS | Family.uniform(1, 0)), ("below", (6,), -1))
        self.assertIs(is_explained(PAIRS), False)

    def test_a_group_over(self):
        self.assertEqual(lists_of(LINES), ("over", (0,), 3))
        self.assertIs(is_explained(LINES), False)

    def test_edges(self):
        self.assertEqual(lists_of(Family(0, [()])), ("jobs", Jobs(0, [])))
        self.assertEqual(lists_of(Family.uniform(7, 0)), ("jobs", Jobs(7, [])))
        self.assertEqual(lists_of(Family.uniform(7, 7)), ("jobs", Jobs.everyone(7, 7)))
        self.assertEqual(lists_of(Family.uniform(7, 3)), ("jobs", Jobs.everyone(7, 3)))


class IsAnswerTest(unittest.TestCase):

    def test_the_answer_itself(self):
        for family in few_families():
            self.assertIs(is_answer(family, lists_of(family)), True)

    def test_the_answers_of_others(self):
        families = few_families()[::4] + [LINES, PAIRS]
        answers = [lists_of(family) for family in families]
        for family in families:
            for answer in answers:
                right = same_kind(answer, lists_of(family))
                if not right and answer[0] == "below":
                    right = (answer[1], answer[2]) in slow_weights(family)
                elif not right and answer[0] == "over" and answer[1] in all_groups(family.size):
                    space = family.full - slow_part_of_crews(family, answer[1])
                    right = answer[2] == slow_above(family, answer[1]) and answer[2] > space
                self.assertIs(is_answer(family, answer), right)

    def test_jobs_in_any_order(self):
        for family in (FAMILY, Family(3, [(0, 1), (0, 2)]), Family.uniform(5, 2) | Family.uniform(1, 1)):
            greatest = lists_of(family)[1]
            for order in permutations(greatest.jobs):
                self.assertIs(is_answer(family, ("jobs", Jobs(family.size, order))), True)

    def test_other_jobs(self):
        greatest = lists_of(FAMILY)[1]
        wrong = [Jobs(5, greatest.jobs), Jobs(4, greatest.jobs[:2]), greatest + Jobs(4, [()]), Jobs(4, [])]
        wrong += [greatest.struck(2, 3), Jobs(4, [(0, 1), (1, 2, 3), (1,)]), greatest.put(0, 2)]
        for jobs in wrong:
            self.assertIs(is_answer(FAMILY, ("jobs", jobs)), False)
        for thing in odd_values() + [greatest.jobs, list(greatest.jobs), FAMILY, "jobs"]:
            if not isinstance(thing, Jobs):
                self.assertIs(is_answer(FAMILY, ("jobs", thing)), False)
        self.assertIs(is_answer(PAIRS, ("jobs", Jobs(6, []))), False)
        self.assertIs(is_answer(LINES, ("jobs", Jobs.everyone(7, 3))), False)

    def test_any_knot_below_0(self):
        two = PAIRS | Family.uniform(1, 1)
        for family in (PAIRS, two, FAMILY, LINES):
            known = dict(slow_weights(family))
            for group in all_groups(family.size):
                for weight in range(-3, 4):
                    right = weight < 0 and known.get(group) == weight
                    self.assertIs(is_answer(family, ("below", group, weight)), right)

    def test_any_group_over(self):
        for family in (PAIRS, LINES, FAMILY):
            for group in all_groups(family.size)[::3] + [(0,)]:
                total = slow_above(family, group)
                space = family.full - slow_part_of_crews(family, group)
                for given in range(total - 2, total + 3):
                    right = given == total and total > space
                    self.assertIs(is_answer(family, ("over", group, given)), right)

    def test_a_group_over_beside_a_weight_below_0(self):
        # Three lines through person 0, and two more: nobody has a weight below 0, and person 0 is over, too.
        lines = [(0, 1, 2), (0, 3, 4), (0, 5, 6), (1, 3, 5), (2, 4, 6)]
        family = Family(7, [crew for crew in all_groups(7) if len(crew) == 3 and crew not in lines])
        self.assertEqual(lists_of(family), ("below", (), -2))
        self.assertIs(is_answer(family, ("below", (), -2)), True)
        self.assertIs(is_answer(family, ("over", (0,), 3)), True)
        self.assertIs(is_answer(family, ("over", (1,), 2)), False)

    def test_truths_are_no_integers(self):
        three = Family(7, [crew for crew in LINES.crews if crew != (1, 3, 5)])
        self.assertEqual(lists_of(three)[0], "below")
        self.assertIs(is_answer(LINES, ("over", (0,), 3)), True)
        for thing in (("over", (False,), 3), ("over", (0,), True), ("below", (), True), ("below", (), False)):
            for family in (LINES, PAIRS, FAMILY, three):
                self.assertIs(is_answer(family, thing), False)

    def test_lists_for_tuples(self):
        for thing in (["over", (0,), 3], ("over", [0], 3), [("over", (0,), 3)], (["over", (0,), 3],)):
            self.assertIs(is_answer(LINES, thing), False)
        for thing in (["below", (), -1], ("below", [], -1), ("below", ((),), -1)):
            self.assertIs(is_answer(PAIRS, thing), False)
        self.assertIs(is_answer(FAMILY, list(lists_of(FAMILY))), False)

    def test_parts_more_or_less(self):
        for family in (PAIRS, LINES, FAMILY):
            answer = lists_of(family)
            for at in range(len(answer)):
                self.assertIs(is_answer(family, answer[:at]), False)
                self.assertIs(is_answer(family, answer[at + 1:]), False)
            for more in (None, 0, (), answer, answer[1]):
                self.assertIs(is_answer(family, answer + (more,)), False)
            self.assertIs(is_answer(family, (answer[0], answer[1], 0, 0)), False)
        self.assertIs(is_answer(FAMILY, ("jobs", lists_of(FAMILY)[1], 0)), False)

    def test_other_words(self):
        for family in (PAIRS, LINES, FAMILY):
            answer = lists_of(family)
            for word in odd_values() + ["Jobs", "jobs ", "over", "below", "jobs", b"jobs", b"over", ("over",)]:
                if not (isinstance(word, str) and word == answer[0]):
                    self.assertIs(is_answer(family, (word,) + answer[1:]), False)

    def test_any_values(self):
        things = odd_values() + [FAMILY, Jobs(4, []), "jobs", nested(20)]
        for family in (PAIRS, LINES, FAMILY, Family(0, [()])):
            for thing in things:
                self.assertIs(is_answer(family, thing), False)
                for word in ("below", "over"):
                    self.assertIs(is_answer(family, (word, thing, -1)), False)
                    self.assertIs(is_answer(family, (word, (0,), thing)), False)
                    self.assertIs(is_answer(family, (word, thing)), False)

    def test_numbers_of_any_size(self):
        for number in (10 ** 40, -10 ** 40):
            self.assertIs(is_answer(PAIRS, ("below", (), number)), False)
            self.assertIs(is_answer(LINES, ("over", (0,), number)), False)


class FewPeopleTest(unittest.TestCase):

    def test_every_family_of_at_most_five_people(self):
        for size, many in ((0, 1), (1, 2), (2, 5), (3, 16), (4, 68), (5, 406)):
            families = all_families(size)
            self.assertEqual(len(families), many)
            for family in families:
                self.assertIs(is_explained(family), True)
                self.assertEqual(Family.of(lists_of(family)[1]), family)

    def test_six_people(self):
        self.assertIs(is_explained(PAIRS), False)
        self.assertIs(is_explained(Family(6, [crew for crew in PAIRS.crews] + [(0, 1)])), True)


class ExampleTest(unittest.TestCase):

    def test_the_example(self):
        self.assertEqual(lists_of(FAMILY)[1].jobs, ((0, 1), (0, 1), (0, 1, 2, 3)))
        pairs = Family.uniform(2, 1) | Family.uniform(2, 1) | Family.uniform(2, 1)
        self.assertEqual(lists_of(pairs.capped(2)), ("below", (), -1))


if __name__ == "__main__":
    unittest.main()
