"""[3], [4], [6], [7], [53]: rolls, the job lists of larger houses."""

import unittest
from itertools import combinations
from random import Random
from time import perf_counter

from crewlists.errors import NoJob, NotPlaceable, TooMany, Unlike, Wrong
from crewlists.family import Family
from crewlists.greatest import greatest
from crewlists.jobs import Jobs
from crewlists.rolls import Roll
from helpers import (
    all_groups, few_lists, grown, in_order, minus, odd_values, random_lists, same_kind, slow_deals, slow_short,
    slow_strength,
)

JOBS = Jobs(4, [(0, 1), (1, 2, 3), (1,)])
ROLL = Roll.of(JOBS)


def random_rolls(seed, count, sizes=(8, 24), most=12):
    """Return some rolls, some with few people in each job, some with many, some with needed or idle people."""
    chance = Random(seed)
    found = []
    for _ in range(count):
        size = chance.randint(*sizes)
        likely = chance.choice([4, 10, 20, 50, 90])
        found.append(Roll(size, [
            tuple(person for person in range(size) if chance.randint(0, 99) < likely)
            for _ in range(chance.randint(0, most))
        ]))
    return found


def bound(roll, group):
    """Return the strength of a group by going through all sets of jobs: what these and the other jobs' people bear."""
    can_do = [sum(1 << at for at, job in enumerate(roll.jobs) if person in job) for person in group]
    return min(
        chosen.bit_count() + sum(1 for bits in can_do if bits & ~chosen)
        for chosen in range(1 << len(roll.jobs))
    )


def slow_parting(one, other):
    """Return the group by which two job lists are told apart, leaving people out from the last to the first."""
    unlike = set(grown(one)) ^ set(grown(other))
    if not unlike:
        return None
    left = tuple(range(one.size))
    for person in reversed(range(one.size)):
        fewer = minus(left, (person,))
        if any(set(group) <= set(fewer) for group in unlike):
            left = fewer
    return left


class ConstructorTest(unittest.TestCase):

    def assert_wrong(self, place, size, jobs):
        with self.assertRaises(Wrong) as caught:
            Roll(size, jobs)
        self.assertTrue(same_kind(caught.exception.place, place))

    def assert_no_job(self, at, size, jobs):
        with self.assertRaises(NoJob) as caught:
            Roll(size, jobs)
        self.assertTrue(same_kind(caught.exception.at, at))

    def test_attributes(self):
        roll = Roll(24, [(0, 23), (), (0, 23)])
        self.assertTrue(same_kind(roll.size, 24))
        self.assertTrue(same_kind(roll.jobs, ((0, 23), (), (0, 23))))
        self.assertEqual(set(vars(roll)) >= {"size", "jobs"}, True)

    def test_every_size_and_number_of_jobs(self):
        for size in range(25):
            for many in range(13):
                rows = [tuple(range(size))] * many
                self.assertEqual(Roll(size, rows).jobs, tuple(rows))
                self.assertEqual(Roll(size, tuple(rows)).jobs, tuple(rows))
                self.assertEqual(len(Roll(size, rows)), many)

    def test_wrong_size(self):
        wrong = [size for size in odd_values() if not same_kind(size, 8)]
        for size in wrong + [(), 25, -1, "24", 10 ** 30]:
            self.assert_wrong(0, size, [])
            self.assert_wrong(0, size, None)
            self.assert_wrong(0, size, [None])

    def test_wrong_rows(self):
        for jobs in odd_values():
            if not isinstance(jobs, (list, tuple)) or len(jobs) > 12:
                self.assert_wrong(1, 24, jobs)
        self.assert_wrong(1, 24, [()] * 13)
        self.assert_wrong(1, 24, ((),) * 13)
        self.assert_wrong(1, 24, {(): ()})

    def test_wrong_ahead_of_bad_items(self):
        self.assert_wrong(0, 25, [None])
        self.assert_wrong(0, None, [()] * 13)
        self.assert_wrong(1, 3, [None] * 13)

    def test_bad_items(self):
        good = [(), (0, 23), ()]
        # Of the odd values, just (0, 8) is a group of 24 people.
        bad = [job for job in odd_values() if not same_kind(job, (0, 8))]
        for job in bad + [(24,), (0, 24), (22, 21), [22, 23], (5, 5), (False, 1), (0, True), "", {}, None]:
            self.assert_no_job(0, 24, [job, None])
            self.assert_no_job(3, 24, good + [job] + good)
            self.assert_no_job(11, 24, (good * 4)[:11] + [job])

    def test_the_people_are_those_of_the_size(self):
        for size in range(25):
            self.assertEqual(Roll(size, [tuple(range(size))]).size, size)
            self.assert_no_job(1, size, [(), (size,)])

    def test_a_roll_or_job_list_is_no_argument(self):
        for thing in (ROLL, JOBS, Family.of(JOBS)):
            self.assert_wrong(0, thing, [])
            self.assert_wrong(1, 4, thing)
            self.assert_no_job(1, 4, [(0,), thing])

    def test_the_list_is_copied(self):
        rows = [(0,), (1,)]
        roll = Roll(2, rows)
        rows.append((0, 1))
        rows[0] = ()
        self.assertEqual(roll.jobs, ((0,), (1,)))

    def test_of(self):
        for jobs in few_lists() + random_lists(81, 20):
            roll = Roll.of(jobs)
            self.assertIsInstance(roll, Roll)
            self.assertTrue(same_kind((roll.size, roll.jobs), (jobs.size, jobs.jobs)))


class EqualTest(unittest.TestCase):

    def test_equal(self):
        self.assertIs(Roll(24, [(23,), ()]) == Roll(24, ((23,), ())), True)
        self.assertIs(Roll(0, []) == Roll(0, ()), True)
        self.assertIs(ROLL != Roll.of(JOBS), False)

    def test_unequal(self):
        for other in (Roll(5, ROLL.jobs), Roll(4, ROLL.jobs[:2]), Roll(4, ROLL.jobs[::-1]), Roll(4, [])):
            self.assertIs(ROLL == other, False)
            self.assertIs(other == ROLL, False)
            self.assertIs(ROLL != other, True)

    def test_nothing_else(self):
        for thing in odd_values() + [JOBS, ROLL.jobs, list(ROLL.jobs), 4, Family.of(JOBS)]:
            self.assertIs(ROLL == thing, False)
            self.assertIs(thing == ROLL, False)
            self.assertIs(Roll(0, []) == thing, False)
        self.assertIs(Roll(0, []) == Jobs(0, []), False)

    def test_alike_rolls_may_be_unequal(self):
        self.assertIs(Roll(1, [(0,)]) == Roll(1, [(0,), ()]), False)


class SmallRollsTest(unittest.TestCase):
    """Rolls of the size of a Jobs agree with what a Jobs gives."""

    def setUp(self):
        self.lists = few_lists()[::2] + random_lists(82, 40) + [Jobs.everyone(7, 7), Jobs(7, [()] * 7), Jobs(0, [])]

    def test_strength_and_short_part(self):
        for jobs in self.lists:
            if jobs.size < 6:
                roll = Roll.of(jobs)
                for group in all_groups(jobs.size):
                    self.assertTrue(same_kind(roll.strength(group), slow_strength(jobs, group)))
                    self.assertTrue(same_kind(roll.short_part(group), slow_short(jobs, group)))

    def test_short_parts_of_larger_lists(self):
        for jobs in self.lists:
            if jobs.size >= 6:
                for group in all_groups(jobs.size)[::5]:
                    self.assertEqual(Roll.of(jobs).short_part(group), slow_short(jobs, group))

    def test_deal(self):
        for jobs in self.lists:
            roll = Roll.of(jobs)
            placed = set(grown(jobs))
            for group in all_groups(jobs.size):
                if group in placed:
                    self.assert_deals(roll, group)
                else:
                    self.assert_refused(roll, group, slow_short(jobs, group))

    def assert_deals(self, roll, group):
        dealt = roll.deal(group)
        self.assertIsInstance(dealt, tuple)
        self.assertEqual(len(dealt), len(group))
        self.assertEqual(len(set(dealt)), len(dealt))
        for person, at in zip(group, dealt):
            self.assertTrue(same_kind(at, int(at)))
            self.assertGreaterEqual(at, 0)
            self.assertIn(person, roll.jobs[at])

    def assert_refused(self, roll, group, short):
        with self.assertRaises(NotPlaceable) as caught:
            roll.deal(group)
        self.assertTrue(same_kind((caught.exception.group, caught.exception.short), (group, short)))

    def test_greatest(self):
        for jobs in self.lists:
            found = Roll.of(jobs).greatest()
            self.assertIsInstance(found, Roll)
            self.assertTrue(same_kind((found.size, found.jobs), (jobs.size, greatest(jobs).jobs)))

    def test_alike_and_parting(self):
        counts = [0, 0]
        rows = self.lists[::3] + [greatest(jobs) for jobs in self.lists[::3]]
        placed = [frozenset(grown(jobs)) for jobs in rows]
        for one, groups in zip(rows, placed):
            for other, others in zip(rows, placed):
                if one.size == other.size:
                    self.assertIs(Roll.of(one).alike(Roll.of(other)), groups == others)
                    counts[groups == others] += 1
        self.assertGreater(min(counts), 100)

    def test_parting(self):
        rows = self.lists[::4] + [greatest(jobs) for jobs in self.lists[::6]]
        for one in rows:
            for other in rows:
                if one.size == other.size:
                    found = Roll.of(one).parting(Roll.of(other))
                    self.assertTrue(same_kind(found, slow_parting(one, other)))

    def test_unlike(self):
        for one, other in ((Roll(0, []), Roll(1, [])), (ROLL, Roll(5, ROLL.jobs))):
            for function in (Roll.alike, Roll.parting):
                with self.assertRaises(Unlike):
                    function(one, other)
                with self.assertRaises(Unlike):
                    function(other, one)


class LargeRollsTest(unittest.TestCase):

    def setUp(self):
        self.full = Roll(24, [tuple(range(24))] * 12)
        self.rolls = random_rolls(83, 40) + [self.full, Roll(24, [()] * 12), Roll(24, [])]
        chance = Random(84)
        self.groups = [
            (roll, tuple(person for person in range(roll.size) if chance.randint(0, 3) < many))
            for roll in self.rolls for many in (1, 2, 4)
        ]

    def test_strength_by_sets_of_jobs(self):
        for roll, group in self.groups[::6]:
            self.assertEqual(roll.strength(group), bound(roll, group))

    def test_short_part_has_the_shortage(self):
        for roll, group in self.groups:
            short = roll.short_part(group)
            open_to = [job for job in roll.jobs if set(job) & set(short)]
            self.assertEqual(len(short) - len(open_to), len(group) - roll.strength(group))
            self.assertLessEqual(set(short), set(group))
            self.assertEqual(short, tuple(sorted(short)))
            # It is the least such part: just its members can be left out without a loss.
            for person in group:
                spared = roll.strength(minus(group, (person,))) == roll.strength(group)
                self.assertEqual(spared, person in short)

    def test_deal(self):
        refused = 0
        for roll, group in self.groups:
            strength = roll.strength(group)
            if strength == len(group):
                dealt = roll.deal(group)
                self.assertEqual(len(set(dealt)), len(group))
                self.assertTrue(all(person in roll.jobs[at] for person, at in zip(group, dealt)))
            else:
                refused += 1
                with self.assertRaises(NotPlaceable) as caught:
                    roll.deal(group)
                self.assertEqual(caught.exception.group, group)
                self.assertEqual(caught.exception.short, roll.short_part(group))
        self.assertGreater(refused, 30)
        self.assertLess(refused, len(self.groups) - 10)

    def test_greatest(self):
        for roll in self.rolls:
            before = roll.jobs
            found = roll.greatest()
            everyone = tuple(range(roll.size))
            self.assertEqual(len(found), roll.strength(everyone))
            self.assertEqual(list(found.jobs), in_order(found.jobs))
            self.assertIs(found.alike(roll), True)
            self.assertEqual(found.greatest(), found)
            # Nobody may be put into a job: the group of all others is its own short part.
            for job in found.jobs:
                outside = minus(everyone, job)
                self.assertEqual(found.short_part(outside), outside)
            for group in self.some_groups(roll.size):
                self.assertEqual(found.strength(group), roll.strength(group))
            self.assertEqual(roll.jobs, before)

    def some_groups(self, size):
        pairs = list(combinations(range(size), 2)) if size else []
        chance = Random(size)
        larger = [tuple(sorted(chance.sample(range(size), many))) for many in range(size + 1)]
        return pairs[::9] + larger

    def test_alike_after_striking_and_putting(self):
        for roll in self.rolls[::3]:
            upper = roll.greatest()
            self.assertIs(roll.alike(upper), True)
            for at, job in enumerate(upper.jobs):
                for person in minus(range(roll.size), job)[:3]:
                    rows = list(upper.jobs)
                    rows[at] = tuple(sorted(job + (person,)))
                    self.assertIs(roll.alike(Roll(roll.size, rows)), False)

    def test_alike_with_more_jobs(self):
        one = Roll(24, [tuple(range(24))] * 6)
        rows = [(person,) for person in range(6)]
        self.assertIs(Roll(24, one.jobs[:5]).alike(one), False)
        self.assertIs(Roll(6, rows).alike(Roll(6, [tuple(range(6))] * 12)), True)
        self.assertIs(Roll(24, [tuple(range(24)), ()]).alike(Roll(24, [tuple(range(24))])), True)
        self.assertIs(Roll(24, [(0,), (0,)]).alike(Roll(24, [(0,)])), True)

    def test_they_are_answered_soon(self):
        chance = Random(85)
        for likely in (1, 2, 3, 5, 9):
            rolls = [
                Roll(24, [tuple(person for person in range(24) if chance.randint(0, 9) < likely) for _ in range(12)])
                for _ in range(2)
            ]
            begun = perf_counter()
            rolls[0].greatest(), rolls[0].alike(rolls[1]), rolls[1].short_part(tuple(range(24)))
            self.assertLess(perf_counter() - begun, 1)


class PartingTest(unittest.TestCase):

    def test_twelve_people(self):
        rolls = random_rolls(86, 14, (12, 12), 6) + random_rolls(87, 6, (12, 12))
        rolls += [Roll(12, roll.jobs[::-1]) for roll in rolls[:5]] + [roll.greatest() for roll in rolls[:5]]
        alike = 0
        for one in rolls:
            for other in rolls:
                found = one.parting(other)
                self.assertEqual(found is None, one.alike(other))
                if found is None:
                    alike += 1
                else:
                    self.assert_parting(one, other, found)
        self.assertGreater(alike, len(rolls) + 5)

    def assert_parting(self, one, other, group):
        """The group tells the two apart, and none of its other parts does."""
        def placed(roll, part):
            return roll.strength(part) == len(part)
        self.assertIsInstance(group, tuple)
        self.assertNotEqual(placed(one, group), placed(other, group))
        for person in group:
            part = minus(group, (person,))
            self.assertTrue(placed(one, part) and placed(other, part))

    def test_people_are_left_out_from_the_last_on(self):
        one, other = Roll(12, [(person,) for person in range(0, 12, 2)]), Roll(12, [()])
        self.assertEqual(one.parting(other), (0,))
        self.assertEqual(other.parting(one), (0,))
        # (3,) tells the two apart, too, and comes first in order; but 3 is left out before.
        one, other = Roll(4, [(0, 1), (3,)]), Roll(4, [(0,), (1,)])
        self.assertEqual([one.parting(other), other.parting(one)], [(0, 1)] * 2)

    def test_larger_ones_are_refused(self):
        for size in (13, 24):
            for other in (Roll(size, []), Roll(size, [(0,)])):
                with self.assertRaises(TooMany) as caught:
                    Roll(size, []).parting(other)
                self.assertTrue(same_kind(caught.exception.limit, 12))

    def test_unlike_ahead_of_larger_ones(self):
        for one, other in ((13, 14), (13, 12), (24, 0), (12, 24)):
            with self.assertRaises(Unlike):
                Roll(one, []).parting(Roll(other, []))
            with self.assertRaises(Unlike):
                Roll(one, []).alike(Roll(other, []))

    def test_edges(self):
        self.assertIsNone(Roll(0, []).parting(Roll(0, [()])))
        self.assertEqual(Roll(1, []).parting(Roll(1, [(0,)])), (0,))
        self.assertEqual(Roll(12, [(11,)]).parting(Roll(12, [])), (11,))
        full = Roll(12, [tuple(range(12))] * 12)
        self.assertEqual(full.parting(Roll(12, full.jobs[:11])), tuple(range(12)))


class ArgumentsTest(unittest.TestCase):

    def test_they_stay(self):
        one, other = Roll(9, [(0, 1, 8), (2,), (0, 1)]), Roll(9, [(0, 1), (2, 8)])
        group = (0, 2)
        one.strength(group), one.short_part(group), one.deal(group), one.greatest(), one.alike(other)
        one.parting(other)
        self.assertEqual(one, Roll(9, [(0, 1, 8), (2,), (0, 1)]))
        self.assertEqual(other, Roll(9, [(0, 1), (2, 8)]))


class ExampleTest(unittest.TestCase):

    def test_the_example(self):
        found = [ROLL.strength((2, 3)), ROLL.short_part((0, 2, 3)), ROLL.greatest().jobs]
        self.assertEqual(found, [1, (2, 3), ((0, 1), (0, 1), (0, 1, 2, 3))])
        self.assertEqual(ROLL.parting(Roll(4, [(0, 1), (2, 3)])), (0, 1))


if __name__ == "__main__":
    unittest.main()
