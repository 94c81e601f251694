"""[2], [3], [4], [71], [72]: walks through cases."""

import unittest
from random import Random

from crewlists.cases import is_walk, settle, walk
from crewlists.errors import TooMany
from crewlists.evidence import Evidence
from crewlists.family import Family
from crewlists.jobs import Jobs
from crewlists.reasons import lists_of
from helpers import (
    PAIRS, all_begun, all_groups, drawn, drawn_evidence, odd_values, right_rows, same_kind, scattered, slow_fitting,
    slow_marks, slow_walk, spoilt, until_it_fits,
)

# Evidence that leaves just the six people without an explanation.
SIX = Evidence(6, [(group, group in PAIRS) for group in all_groups(6) if 1 < len(group) < 4][:35])
EVIDENCE = Evidence(3, [((0, 1), True), ((2,), True), ((0, 2), False), ((1, 2), False)])
OPEN = Evidence(2, [])


def slow_is_walk(evidence, begun, thing):
    """Return whether thing is a walk, each row looked for among all that are right in its case."""
    if thing.__class__ is not list or not thing:
        return False
    met = []

    def right(at, case):
        if at in met:
            return False
        met.append(at)
        row, marks = thing[at], slow_marks(evidence.size, case)
        if row.__class__ is tuple and len(row) == 4 and same_kind(row[0], "ask"):
            _, group, yes, no = row
            if not any(same_kind(group, other) for other in all_groups(evidence.size) if other not in marks):
                return False
            if any(to.__class__ is not int or to <= at or to >= len(thing) for to in (yes, no)):
                return False
            return right(yes, case + [(group, True)]) and right(no, case + [(group, False)])
        return any(same_kind(row, other) for other in right_rows(evidence, marks))

    return right(0, list(begun)) and len(met) == len(thing)


def any_walk(chance, evidence, begun=()):
    """Return a walk with any right row in each case, the rows in any order that is right."""
    def expand(case):
        marks = slow_marks(evidence.size, case)
        rows = right_rows(evidence, marks)
        unmarked = [group for group in all_groups(evidence.size) if group not in marks]
        if rows and (not unmarked or chance.randrange(3)):
            return chance.choice(rows), []
        group = chance.choice(unmarked)
        return ("ask", group), [case + [(group, True)], case + [(group, False)]]

    return scattered(chance, expand, list(begun))


class IsWalkTest(unittest.TestCase):

    def assert_walk(self, right, evidence, begun, thing):
        self.assertIs(is_walk(evidence, begun, thing), right, (evidence.sightings, evidence.wrong, begun, thing))

    def test_what_walk_returns(self):
        for evidence in drawn_evidence(201, 60) + [Evidence(size, []) for size in range(5)] + [SIX]:
            for begun in all_begun(evidence.size)[::3]:
                self.assert_walk(True, evidence, begun, walk(evidence, begun))

    def test_walks_that_walk_did_not_make(self):
        chance = Random(202)
        kinds = {}
        unlike = 0
        for evidence in drawn_evidence(203, 120, 3, 6) + drawn_evidence(204, 20, 4, 8):
            for begun in [()] + chance.choices(all_begun(evidence.size), k=2):
                found = any_walk(chance, evidence, begun)
                self.assert_walk(True, evidence, begun, found)
                unlike += found != walk(evidence, begun)
                kinds.update({row[0]: True for row in found})
        self.assertGreater(unlike, 200)
        self.assertEqual(sorted(kinds), ["ask", "fits", "shift", "wrong"])

    def test_spoilt_in_one_place(self):
        chance = Random(205)
        counts = [0, 0]
        for evidence in drawn_evidence(206, 60, 3, 6) + [EVIDENCE, OPEN]:
            for begun in [()] + chance.choices(all_begun(evidence.size), k=2):
                for found in (walk(evidence, begun), any_walk(chance, evidence, begun)):
                    for _ in range(12):
                        thing = spoilt(chance, found)
                        right = slow_is_walk(evidence, begun, thing)
                        self.assert_walk(right, evidence, begun, thing)
                        counts[right] += 1
        self.assertGreater(counts[False], 2500)
        self.assertGreater(counts[True], 50)

    def test_of_other_evidence(self):
        rows = drawn_evidence(207, 25, 3, 5)
        counts = [0, 0]
        for one in rows:
            found = walk(one)
            for other in rows:
                right = slow_is_walk(other, (), found)
                self.assert_walk(right, other, (), found)
                counts[right] += 1
        self.assertGreater(min(counts), 20)

    def test_begun_as_other_things(self):
        for begun in all_begun(3):
            found = walk(EVIDENCE, begun)
            for other in all_begun(3):
                self.assert_walk(slow_is_walk(EVIDENCE, other, found), EVIDENCE, other, found)
        self.assert_walk(True, OPEN, (((0, 1), True),), [("fits", ((0, 1),))])
        self.assert_walk(False, OPEN, (((0, 1), False),), [("fits", ((0, 1),))])
        self.assert_walk(False, OPEN, (), [("fits", ((0, 1),))])

    def test_rows_that_are_named_twice_or_not_at_all(self):
        right = [("ask", (0,), 1, 2), ("fits", ((0,),)), ("fits", ((),))]
        one = Evidence(1, [])
        self.assert_walk(True, one, (), right)
        self.assert_walk(True, one, (), [("ask", (0,), 2, 1), right[2], right[1]])
        for row in (("ask", (0,), 1, 1), ("ask", (0,), 2, 2), ("ask", (0,), 2, 1)):
            self.assert_walk(False, one, (), [row] + right[1:])
        self.assert_walk(False, one, (), right + [("fits", ((),))])
        self.assert_walk(False, one, (), right[:1] + right[1:2] + right)
        self.assert_walk(False, one, (), right[:2])
        self.assert_walk(False, one, (), right[1:])
        self.assert_walk(True, one, (((0,), True),), right[1:2])

    def test_indexes_that_are_not_greater_or_beyond_the_list(self):
        two = walk(OPEN)
        self.assertEqual(two[:2], [("ask", (0,), 1, 6), ("ask", (1,), 2, 5)])
        for yes, no in ((0, 6), (1, 0), (-8, 6), (1, 9), (10 ** 40, 6), (1, -10 ** 40), (True, 6), ("1", 6), (1, None)):
            self.assert_walk(False, OPEN, (), [("ask", (0,), yes, no)] + two[1:])
        self.assert_walk(False, OPEN, (), two[:1] + [("ask", (1,), 1, 5)] + two[2:])
        self.assert_walk(False, OPEN, (), two[:1] + [("ask", (1,), 0, 5)] + two[2:])

    def test_rows_that_name_themselves_or_one_another(self):
        ends = [("fits", ((),))] * 5
        for rows in (
            [("ask", (0,), 2, 3), ("ask", (1,), 1, 4)], [("ask", (0,), 2, 3), ("ask", (1,), 4, 1)],
            [("ask", (0,), 3, 4), ("ask", (1,), 2, 5), ("ask", (1,), 1, 6)],
            [("ask", (0,), 0, 1)], [("ask", (0,), 1, 0)],
        ):
            named = max(row[2] for row in rows), max(row[3] for row in rows)
            self.assert_walk(False, OPEN, (), rows + ends[:max(named) + 1 - len(rows)])

    def test_groups_that_are_marked(self):
        ends = [("fits", ((0,),)), ("fits", ((),))]
        for begun in ((), (((0,), True),)):
            self.assert_walk(False, Evidence(1, []), begun, [("ask", (), 1, 2)] + ends)
        for group in ((0,), (1,), (0, 1)):
            self.assert_walk(False, OPEN, (((0, 1), True),), [("ask", group, 1, 2), ends[0], ends[1]])
        self.assert_walk(False, OPEN, (((0,), False),), [("ask", (0, 1), 1, 2), ends[0], ends[1]])
        self.assert_walk(True, OPEN, (((0,), False),), [("ask", (1,), 1, 2), ("fits", ((1,),)), ("fits", ((),))])

    def test_indexes_of_wrong_ones(self):
        rows = [((0,), False), ((), False), ((0, 1), True), ((1,), False), ((), False)]
        begun = (((0, 1), True),)
        for wrong, right in ((0, [(0,), (1,), (3,), (4,)]), (1, [(0, 1), (0, 4), (1, 3), (3, 4)]), (3, [(0, 1, 3, 4)])):
            evidence = Evidence(2, rows, wrong)
            for indexes in right:
                self.assert_walk(True, evidence, begun, [("wrong", indexes)])
                bad = [indexes[1:], indexes[:-1], indexes + (5,), indexes + (4,), indexes + indexes[-1:], list(indexes)]
                bad += [indexes[:-1] + (at,) for at in (2, 5, -1, None, "3")]
                bad += [tuple(bool(at) for at in indexes)]
                for other in bad:
                    self.assert_walk(False, evidence, begun, [("wrong", other)])
            for indexes in right:
                if len(indexes) > 1:
                    self.assert_walk(False, evidence, begun, [("wrong", indexes[::-1])])
                    self.assert_walk(False, evidence, begun, [("wrong", indexes[:1] * len(indexes))])
        self.assert_walk(False, Evidence(2, rows, 4), begun, [("wrong", (0, 1, 3, 4))])
        self.assert_walk(False, Evidence(2, rows, 40), begun, [("wrong", ())])

    def test_nobody_told_false(self):
        evidence = Evidence(2, [((), False), ((0,), True)])
        self.assert_walk(True, evidence, (), [("wrong", (0,))])
        self.assert_walk(False, evidence, (), [("wrong", (1,))])
        self.assertEqual(walk(evidence), [("wrong", (0,))])
        self.assertEqual(settle(Evidence(2, [((), False), ((0,), True)], 1))[0], "jobs")

    def test_shifts(self):
        # Nobody of (0, 1) makes (2,) a larger group.
        case = [((0, 1), True), ((2,), True), ((0, 2), False), ((1, 2), False)]
        rows, begun = [], ()
        for at, (group, truth) in enumerate(case):
            rows.append(("ask", group, at + 1, 0) if truth else ("ask", group, 0, at + 1))
        evidence = Evidence(3, [(group, truth) for group, truth in case])

        def made(row):
            found = list(rows)
            ends = []
            for at, (group, truth) in enumerate(case):
                _, _, yes, no = found[at]
                ends.append(("wrong", (at,)))
                place = len(case) + 1 + at
                found[at] = ("ask", group, yes or place, no or place)
            return found + [row] + ends

        self.assert_walk(True, evidence, begun, made(("shift", (2,), (0, 1))))
        bad = [
            ((0,), (0, 1)), ((0, 1), (2,)), ((2,), (1, 0)), ([2], (0, 1)), ((2,), [0, 1]), ((2,), (False, True)),
            ((2,), (0, 2)), ((1,), (0, 1)), ((), (2,)), ((2,), (0,)), ((2,), (0, 1, 2)), ((2,), ()), (None, (0, 1)),
            ((2,), None), ((3,), (0, 1)), ((2,), (0, 3)), (2, (0, 1)), ((2, 2), (0, 1)),
        ]
        for one, other in bad:
            self.assert_walk(False, evidence, begun, made(("shift", one, other)))
        for row in (("shift", (2,)), ("shift", (2,), (0, 1), ()), ("shift",), ("fits", ((0, 1),)), ("quarrel", None)):
            self.assert_walk(False, evidence, begun, made(row))

    def test_fits_where_a_shift_is_right(self):
        # All is marked: (0, 1) and (2,) are, and no other pair.
        evidence = Evidence(3, [])
        asked = [(0, 1), (2,), (0, 2), (1, 2)]
        rows = walk(Evidence(3, [(group, group in asked[:2]) for group in asked], 40))
        at = [to for to, row in enumerate(rows) if row == ("shift", (2,), (0, 1))][0]
        self.assert_walk(True, evidence, (), rows)
        for row in (("fits", ((0, 1),)), ("fits", ((0, 1), (2,))), ("quarrel", ("below", (), -1))):
            self.assert_walk(False, evidence, (), rows[:at] + [row] + rows[at + 1:])

    def test_crews(self):
        evidence = Evidence(3, [])
        begun = (((0, 1), True),)
        rows = walk(evidence, begun)
        at = rows.index(("fits", ((0, 1), (0, 2), (1, 2))))
        bad = [
            ((0, 2), (0, 1), (1, 2)), ((0, 1), (0, 2)), ((0, 1), (0, 2), (1, 2), (1, 2)), [(0, 1), (0, 2), (1, 2)],
            ([0, 1], [0, 2], [1, 2]), ((False, True), (0, 2), (1, 2)), ((0, 1), (0, 2), (True, 2)), (), None,
            ((0, 1), (0, 2), (1, 2), 0), ((0, 1), (0, 2), (2, 1)), Family.uniform(3, 2), {(0, 1): 1},
        ]
        for crews in bad:
            self.assert_walk(False, evidence, begun, rows[:at] + [("fits", crews)] + rows[at + 1:])
        for row in (("fits",), ("fits", rows[at][1], ()), ["fits", rows[at][1]], ("fit", rows[at][1])):
            self.assert_walk(False, evidence, begun, rows[:at] + [row] + rows[at + 1:])

    def test_too_many_wrong_ones_do_not_fit(self):
        rows = [((0,), False), ((1,), False)]
        begun = (((0, 1), True),)
        self.assert_walk(True, Evidence(2, rows, 2), begun, [("fits", ((0, 1),))])
        for wrong in (0, 1):
            self.assert_walk(False, Evidence(2, rows, wrong), begun, [("fits", ((0, 1),))])

    def test_quarrels(self):
        rows = walk(SIX)
        at = [to for to, row in enumerate(rows) if row[0] == "quarrel"][0]
        self.assertEqual(rows[at], ("quarrel", ("below", (), -1)))
        self.assertEqual([row[0] for row in rows].count("quarrel"), 1)
        bad = [
            ("below", (), -2), ("below", (), True), ("below", (0,), -1), ("below", [], -1), ["below", (), -1],
            ("over", (), -1), ("over", (), 3), ("jobs", Jobs.everyone(6, 2)), (), None, ("below", ()), "below",
            ("below", (), -1, 0), ("jobs", Jobs(6, [])), Jobs(6, []), ("over", (0,), 1), PAIRS,
        ]
        for answer in bad:
            self.assert_walk(False, SIX, (), rows[:at] + [("quarrel", answer)] + rows[at + 1:])
        for row in (("fits", PAIRS.crews), ("quarrel",), ("quarrel", rows[at][1], 0), ("wrong", (0,)), ("wrong", ())):
            self.assert_walk(False, SIX, (), rows[:at] + [row] + rows[at + 1:])
        for word in ("Quarrel", "below", "fits ", "", b"quarrel"):
            self.assert_walk(False, SIX, (), rows[:at] + [(word, rows[at][1])] + rows[at + 1:])
        # What has an explanation is no quarrel, whatever the answer.
        for answer in [("below", (), -1), lists_of(Family.uniform(2, 2))]:
            self.assert_walk(False, OPEN, (((0, 1), True),), [("quarrel", answer)])

    def test_another_family_without_an_explanation(self):
        # Four lines of three people each, every two of them with one person in common.
        lines = [(0, 1, 2), (0, 3, 4), (1, 3, 5), (2, 4, 5)]
        family = Family(6, [crew for crew in all_groups(6) if len(crew) == 3 and crew not in lines])
        evidence = Evidence(6, [(group, group in family) for group in all_groups(6) if 2 < len(group) < 5])
        rows = walk(evidence)
        at = [to for to, row in enumerate(rows) if row[0] == "quarrel"][0]
        right = right_rows(evidence, {group: group in family for group in all_groups(6)})
        for row in right:
            self.assert_walk(True, evidence, (), rows[:at] + [row] + rows[at + 1:])
        for row in (("quarrel", ("over", (0,), 3)), ("quarrel", ("below", (0,), -1)), ("fits", family.crews)):
            self.assert_walk(False, evidence, (), rows[:at] + [row] + rows[at + 1:])

    def test_any_values(self):
        things = odd_values() + [[value] for value in odd_values()] + [[(value,)] for value in odd_values()]
        things += [[(word, value) for word in ("fits",)] for value in odd_values()]
        things += [[("wrong", value)] for value in odd_values()] + [[("quarrel", value)] for value in odd_values()]
        things += [[("shift", value, (0,))] for value in odd_values()]
        things += [[("ask", (0,), value, 2), ("fits", ((),)), ("fits", ((),))] for value in odd_values()]
        things += [[("ask", value, 1, 2), ("fits", ((0,),)), ("fits", ((),))] for value in odd_values()]
        things += [walk(OPEN) + [value] for value in odd_values()] + [tuple(walk(OPEN)), walk, EVIDENCE]
        for evidence in (OPEN, EVIDENCE, Evidence(1, [((), False)]), SIX):
            for thing in things:
                self.assertIs(is_walk(evidence, (), thing), slow_is_walk(evidence, (), thing))
        for thing in things:
            self.assertIs(is_walk(EVIDENCE, (((0,), True),), thing), False)

    def test_large_lists(self):
        chain = [("ask", (0,), at + 1, at + 2) for at in range(1000)]
        self.assertIs(is_walk(OPEN, (), chain), False)
        self.assertIs(is_walk(OPEN, (), [("wrong", tuple(range(4000)))]), False)
        self.assertIs(is_walk(OPEN, (), [("fits", ((0,),) * 2000)]), False)

    def test_nothing_is_changed(self):
        rows = walk(EVIDENCE)
        copy = list(rows)
        is_walk(EVIDENCE, (), rows)
        self.assertTrue(same_kind(rows, copy))
        self.assertEqual(EVIDENCE, Evidence(3, EVIDENCE.sightings))


class WalkTest(unittest.TestCase):

    def setUp(self):
        self.evidence = drawn_evidence(211, 120) + [Evidence(size, [], wrong) for size in range(5) for wrong in (0, 40)]
        self.evidence += [Evidence(size, drawn(size, size, 12), wrong) for size in range(5) for wrong in range(5)]

    def test_against_a_slow_search(self):
        kinds = {}
        for evidence in self.evidence:
            found = walk(evidence)
            self.assertTrue(same_kind(found, slow_walk(evidence)))
            kinds.update({row[0]: True for row in found})
        self.assertEqual(sorted(kinds), ["ask", "fits", "shift", "wrong"])

    def test_with_something_begun(self):
        for evidence in self.evidence[::4]:
            for begun in all_begun(evidence.size)[::5]:
                self.assertTrue(same_kind(walk(evidence, begun), slow_walk(evidence, begun)))
                self.assertEqual(walk(evidence, begun), walk(evidence, begun=begun))

    def test_all_numbers_of_wrong_ones(self):
        rows = drawn(212, 3, 40)
        for wrong in range(41):
            evidence = Evidence(3, rows, wrong)
            self.assertTrue(same_kind(walk(evidence), slow_walk(evidence)))

    def test_six_people(self):
        self.assertTrue(same_kind(walk(SIX), slow_walk(SIX)))
        self.assertEqual([row for row in walk(SIX) if row[0] == "quarrel"], [("quarrel", ("below", (), -1))])
        more = Evidence(6, SIX.sightings + ((tuple(range(6)), False), ((5,), True)), 1)
        self.assertTrue(same_kind(walk(more, most=4000), slow_walk(more)))

    def test_no_sightings(self):
        self.assertEqual(walk(Evidence(0, [])), [("fits", ((),))])
        self.assertEqual(walk(Evidence(1, [])), [("ask", (0,), 1, 2), ("fits", ((0,),)), ("fits", ((),))])
        for size, many in ((2, 5), (3, 16), (4, 68)):
            found = walk(Evidence(size, []))
            self.assertEqual([row[0] for row in found].count("fits"), many)

    def test_the_rows_fits_are_all_that_fit(self):
        for evidence in self.evidence[::2]:
            crews = [row[1] for row in walk(evidence) if row[0] == "fits"]
            self.assertEqual(sorted(crews), sorted(slow_fitting(evidence)))

    def test_at_most_so_many_rows(self):
        for evidence in self.evidence[::3]:
            rows = walk(evidence)
            self.assertEqual(walk(evidence, most=len(rows)), rows)
            for most in {1, len(rows) // 2, len(rows) - 1} & set(range(1, len(rows))):
                with self.assertRaises(TooMany) as caught:
                    walk(evidence, most=most)
                self.assertTrue(same_kind(caught.exception.limit, most))

    def test_400_rows_by_default(self):
        with self.assertRaises(TooMany) as caught:
            walk(Evidence(5, []))
        self.assertTrue(same_kind(caught.exception.limit, 400))
        with self.assertRaises(TooMany):
            walk(Evidence(6, []))

    def test_most_by_keyword(self):
        for function in (walk, settle):
            with self.assertRaises(TypeError):
                function(EVIDENCE, (), 400)

    def test_a_new_list(self):
        rows = walk(EVIDENCE)
        self.assertIsNot(walk(EVIDENCE), rows)
        rows.clear()
        self.assertEqual(walk(EVIDENCE)[0], ("ask", (0, 1), 1, 8))


class SettleTest(unittest.TestCase):

    def setUp(self):
        self.evidence = drawn_evidence(221, 120) + [Evidence(size, [], wrong) for size in range(5) for wrong in (0, 40)]

    def test_against_a_slow_search(self):
        counts = {"jobs": 0, "none": 0}
        for evidence in self.evidence:
            for begun in [()] + all_begun(evidence.size)[2::6]:
                rows = slow_walk(evidence, begun)
                made = until_it_fits(rows)
                expected = ("none", rows)
                if rows[made - 1][0] == "fits":
                    expected = lists_of(Family(evidence.size, rows[made - 1][1]))
                self.assertTrue(same_kind(settle(evidence, begun), expected))
                counts[expected[0]] += 1
        self.assertGreater(min(counts.values()), 50)

    def test_the_rows_of_none_are_those_of_walk(self):
        for evidence in self.evidence:
            word, found = settle(evidence)
            if word == "none":
                self.assertEqual(found, walk(evidence))
                self.assertEqual(slow_fitting(evidence), [])

    def test_the_jobs_explain_a_family_that_fits(self):
        for evidence in self.evidence:
            word, found = settle(evidence)
            if word == "jobs":
                self.assertTrue(evidence.fits(Family.of(found)))
                self.assertEqual(lists_of(Family.of(found))[1], found)

    def test_at_most_so_many_rows(self):
        fitting = 0
        for evidence in self.evidence:
            rows = slow_walk(evidence)
            made = until_it_fits(rows)
            fitting += rows[made - 1][0] == "fits"
            expected = settle(evidence)
            self.assertEqual(settle(evidence, most=made), expected)
            for most in {1, made // 2, made - 1} & set(range(1, made)):
                with self.assertRaises(TooMany) as caught:
                    settle(evidence, most=most)
                self.assertTrue(same_kind(caught.exception.limit, most))
        self.assertGreater(fitting, 40)

    def test_fewer_rows_than_a_walk(self):
        # The first row "fits" of five people is met long before the walk ends.
        self.assertEqual(settle(Evidence(5, []))[0], "jobs")
        self.assertEqual(settle(Evidence(6, []))[1], Jobs.everyone(6, 6))

    def test_six_people(self):
        word, found = settle(SIX)
        self.assertEqual((word, found), ("none", walk(SIX)))
        self.assertEqual(settle(Evidence(6, SIX.sightings, 1))[0], "jobs")

    def test_a_new_list(self):
        evidence = Evidence(1, [((0,), True), ((0,), False)])
        found = settle(evidence)[1]
        self.assertEqual(found, [("ask", (0,), 1, 2), ("wrong", (1,)), ("wrong", (0,))])
        found.clear()
        self.assertEqual(len(settle(evidence)[1]), 3)


class ExampleTest(unittest.TestCase):

    def test_the_example(self):
        self.assertEqual(settle(Evidence(2, [((0, 1), False), ((0,), True)]))[1].jobs, ((0, 1),))
        rows = [
            ("ask", (0, 1), 1, 8), ("ask", (2,), 2, 7), ("ask", (0, 2), 3, 4), ("wrong", (2,)),
            ("ask", (1, 2), 5, 6),
        ]
        self.assertEqual(settle(EVIDENCE)[1][:5], rows)
        self.assertEqual(settle(EVIDENCE)[1][6], ("shift", (2,), (0, 1)))


if __name__ == "__main__":
    unittest.main()
