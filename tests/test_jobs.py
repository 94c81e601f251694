"""[2], [3], [4], [21]: job lists."""

import unittest
from random import Random

from crewlists.errors import NoJob, TooMany, Unlike, Wrong
from crewlists.jobs import Jobs
from helpers import (
    few_lists, minus, nested, odd_values, random_lists, same_kind, slow_open, slow_strength, union,
)

JOBS = Jobs(4, [(0, 1), (1, 2, 3), (1,)])


class ConstructorTest(unittest.TestCase):

    def assert_wrong(self, place, size, jobs):
        with self.assertRaises(Wrong) as caught:
            Jobs(size, jobs)
        self.assertEqual(caught.exception.place, place)

    def assert_no_job(self, at, size, jobs):
        with self.assertRaises(NoJob) as caught:
            Jobs(size, jobs)
        self.assertTrue(same_kind(caught.exception.at, at))

    def test_attributes(self):
        jobs = Jobs(3, [(0, 2), (), (0, 2)])
        self.assertTrue(same_kind(jobs.size, 3))
        self.assertTrue(same_kind(jobs.jobs, ((0, 2), (), (0, 2))))
        self.assertEqual(set(vars(jobs)) >= {"size", "jobs"}, True)

    def test_every_size_and_number_of_jobs(self):
        for size in range(8):
            for many in range(8):
                rows = [tuple(range(size))] * many
                self.assertEqual(Jobs(size, rows).jobs, tuple(rows))
                self.assertEqual(Jobs(size, tuple(rows)).jobs, tuple(rows))

    def test_wrong_size(self):
        for size in odd_values() + [()]:
            self.assert_wrong(0, size, [])
            self.assert_wrong(0, size, None)
            self.assert_wrong(0, size, [None])

    def test_wrong_rows(self):
        for jobs in odd_values():
            if not isinstance(jobs, (list, tuple)) or len(jobs) > 7:
                self.assert_wrong(1, 7, jobs)

    def test_a_job_list_is_no_argument_and_no_item(self):
        self.assert_wrong(0, JOBS, [])
        self.assert_wrong(1, 4, JOBS)
        self.assert_no_job(1, 4, [(0,), JOBS, None])

    def test_seven_jobs_and_one_more(self):
        self.assertEqual(len(Jobs(1, [()] * 7)), 7)
        self.assert_wrong(1, 1, [()] * 8)
        self.assert_wrong(1, 1, ((),) * 8)
        self.assert_wrong(1, 1, [None] * 8)

    def test_the_first_bad_item(self):
        for at in range(7):
            rows = [(0,)] * at + [(3,)] + [(0,), None, [0]][:6 - at]
            self.assert_no_job(at, 3, rows)
            self.assert_no_job(at, 3, tuple(rows))

    def test_any_bad_item(self):
        for item in odd_values():
            self.assert_no_job(2, 7, [(0,), (), item])
            self.assert_no_job(0, 0, [item, None])

    def test_items_that_are_nearly_groups(self):
        for item in ((0, 3), (1, 0), (1, 1), (True,), (0, True), [0], [], (-1,), "01"):
            self.assert_no_job(0, 3, [item])

    def test_nested_deeply(self):
        self.assert_wrong(0, nested(20), nested(20))
        self.assert_no_job(0, 3, nested(20))
        self.assert_no_job(0, 3, [nested(19)])

    def test_copies_what_it_is_given(self):
        rows = [(0,), (1,)]
        jobs = Jobs(2, rows)
        rows[0] = (0, 1)
        rows.append(())
        self.assertEqual(jobs.jobs, ((0,), (1,)))
        self.assertEqual(rows, [(0, 1), (1,), ()])


class EqualityTest(unittest.TestCase):

    def test_equal(self):
        self.assertTrue(Jobs(2, [(0,)]) == Jobs(2, ((0,),)))
        self.assertFalse(Jobs(2, [(0,)]) != Jobs(2, ((0,),)))

    def test_not_equal(self):
        for other in (Jobs(3, [(0,)]), Jobs(2, [(1,)]), Jobs(2, [(0,), (0,)]), Jobs(2, [])):
            self.assertFalse(Jobs(2, [(0,)]) == other)
            self.assertTrue(Jobs(2, [(0,)]) != other)
        self.assertFalse(Jobs(2, [(0,), (1,)]) == Jobs(2, [(1,), (0,)]))

    def test_nothing_else_is_equal(self):
        for thing in odd_values() + [((0,),), (2, ((0,),)), [(0,)], ()]:
            self.assertIs(Jobs(2, [(0,)]) == thing, False)
            self.assertIs(thing == Jobs(2, [(0,)]), False)
            self.assertIs(Jobs(2, [(0,)]) != thing, True)


class SequenceTest(unittest.TestCase):

    def test_length_iteration_and_index(self):
        for jobs in few_lists() + random_lists(1, 50):
            self.assertEqual(len(jobs), len(jobs.jobs))
            self.assertEqual(tuple(jobs), jobs.jobs)
            self.assertEqual(tuple(jobs[at] for at in range(len(jobs))), jobs.jobs)

    def test_walks_at_the_same_time(self):
        self.assertEqual([(one, other) for one in JOBS for other in JOBS][4], (JOBS[1], JOBS[1]))

    def test_full_strength(self):
        self.assertEqual(abs(Jobs(0, [])), 0)
        self.assertEqual(abs(Jobs(0, [()] * 7)), 0)
        self.assertEqual(abs(Jobs(7, [])), 0)
        self.assertEqual(abs(Jobs.everyone(7, 7)), 7)
        self.assertEqual(abs(Jobs(7, [(0,)] * 7)), 1)
        for jobs in few_lists() + random_lists(2, 40, 5):
            self.assertTrue(same_kind(abs(jobs), slow_strength(jobs, tuple(range(jobs.size)))))


class MethodsTest(unittest.TestCase):

    def setUp(self):
        self.lists = few_lists() + random_lists(3, 60)

    def assert_unchanged(self, jobs, deed):
        size, rows = jobs.size, jobs.jobs
        found = deed(jobs)
        self.assertEqual((jobs.size, jobs.jobs), (size, rows))
        return found

    def test_open_to(self):
        self.assertEqual(JOBS.open_to((0, 2)), (0, 1))
        self.assertEqual(JOBS.open_to(()), ())
        for jobs in self.lists:
            for group in ((), (0,), (1, 2), (0, 1, 2)):
                found = self.assert_unchanged(jobs, lambda asked: asked.open_to(group))
                self.assertTrue(same_kind(found, slow_open(jobs, group)))

    def test_outside(self):
        self.assertEqual(JOBS.outside(0), (2, 3))
        for jobs in self.lists:
            for at in range(len(jobs)):
                self.assertTrue(same_kind(jobs.outside(at), minus(range(jobs.size), jobs[at])))

    def test_put_and_struck(self):
        for jobs in self.lists:
            for at in range(len(jobs)):
                for person in range(jobs.size):
                    more = self.assert_unchanged(jobs, lambda asked: asked.put(at, person))
                    less = self.assert_unchanged(jobs, lambda asked: asked.struck(at, person))
                    rows = list(jobs.jobs)
                    rows[at] = union(jobs[at], (person,))
                    self.assertTrue(same_kind(more, Jobs(jobs.size, rows)))
                    rows[at] = minus(jobs[at], (person,))
                    self.assertTrue(same_kind(less, Jobs(jobs.size, rows)))

    def test_put_and_struck_of_equal_jobs_change_one(self):
        jobs = Jobs(2, [(0,), (0,), (0,)])
        self.assertEqual(jobs.put(1, 1).jobs, ((0,), (0, 1), (0,)))
        self.assertEqual(jobs.struck(1, 0).jobs, ((0,), (), (0,)))
        self.assertEqual(jobs.put(1, 0), jobs)
        self.assertEqual(jobs.struck(1, 1), jobs)

    def test_picked(self):
        self.assertEqual(JOBS.picked((0, 2)), Jobs(4, [(0, 1), (1,)]))
        self.assertEqual(JOBS.picked(()), Jobs(4, []))
        self.assertEqual(JOBS.picked((0, 1, 2)), JOBS)
        self.assertEqual(Jobs.everyone(7, 7).picked((6,)), Jobs.everyone(7, 1))

    def test_renamed(self):
        self.assertEqual(JOBS.renamed((3, 2, 1, 0)).jobs, ((2, 3), (0, 1, 2), (2,)))
        self.assertEqual(JOBS.renamed([1, 2, 3, 0]).jobs, ((1, 2), (0, 2, 3), (2,)))
        self.assertEqual(Jobs(0, [(), ()]).renamed(()), Jobs(0, [(), ()]))
        chance = Random(4)
        for jobs in self.lists:
            order = list(range(jobs.size))
            chance.shuffle(order)
            asked = list(order)
            found = self.assert_unchanged(jobs, lambda told: told.renamed(asked))
            self.assertEqual(asked, order)
            self.assertEqual(found.size, jobs.size)
            self.assertEqual(found.jobs, tuple(tuple(sorted(order[person] for person in job)) for job in jobs))

    def test_turned(self):
        self.assertEqual(Jobs(0, []).turned(), Jobs(0, []))
        self.assertEqual(Jobs(3, []).turned(), Jobs(0, [(), (), ()]))
        self.assertEqual(Jobs(0, [(), (), ()]).turned(), Jobs(3, []))
        self.assertEqual(Jobs.everyone(7, 7).turned(), Jobs.everyone(7, 7))
        for jobs in self.lists:
            found = self.assert_unchanged(jobs, lambda asked: asked.turned())
            self.assertEqual((found.size, len(found)), (len(jobs), jobs.size))
            self.assertEqual(found.jobs, tuple(slow_open(jobs, (person,)) for person in range(jobs.size)))
            self.assertEqual(found.turned(), jobs)

    def test_hired(self):
        self.assertEqual(JOBS.hired((0, 2)), Jobs(5, [(0, 1, 4), (1, 2, 3), (1, 4)]))
        self.assertEqual(JOBS.hired(()), Jobs(5, JOBS.jobs))
        self.assertEqual(Jobs(0, [()] * 7).hired((0, 6)).jobs, ((0,), (), (), (), (), (), (0,)))
        self.assertEqual(Jobs(6, []).hired(()), Jobs(7, []))

    def test_hired_at_the_greatest_size(self):
        for jobs in (Jobs(7, []), Jobs.everyone(7, 7)):
            with self.assertRaises(TooMany) as caught:
                jobs.hired(())
            self.assertEqual(caught.exception.limit, 7)

    def test_everyone(self):
        for size in range(8):
            for many in range(8):
                self.assertEqual(Jobs.everyone(size, many), Jobs(size, [tuple(range(size))] * many))
        self.assertEqual(JOBS.everyone(2, 1), Jobs(2, [(0, 1)]))


class OperatorsTest(unittest.TestCase):

    def assert_too_many(self, deed):
        with self.assertRaises(TooMany) as caught:
            deed()
        self.assertEqual(caught.exception.limit, 7)

    def test_plus(self):
        one, other = Jobs(3, [(0,), ()]), Jobs(3, [(2,), (0,)])
        self.assertEqual((one + other).jobs, ((0,), (), (2,), (0,)))
        self.assertEqual((one.jobs, other.jobs), (((0,), ()), ((2,), (0,))))
        self.assertEqual(one + Jobs(3, []), one)
        self.assertEqual(Jobs(3, []) + one, one)
        self.assertEqual(Jobs(0, [()]) + Jobs(0, [()]), Jobs(0, [(), ()]))
        self.assertEqual(Jobs.everyone(7, 3) + Jobs.everyone(7, 4), Jobs.everyone(7, 7))

    def test_plus_errors_in_their_order(self):
        self.assert_too_many(lambda: Jobs.everyone(7, 4) + Jobs.everyone(7, 4))
        self.assert_too_many(lambda: Jobs.everyone(0, 7) + Jobs.everyone(0, 1))
        for one, other in ((2, 3), (3, 2), (0, 7)):
            with self.assertRaises(Unlike):
                Jobs(one, []) + Jobs(other, [])
            with self.assertRaises(Unlike):
                Jobs.everyone(one, 7) + Jobs.everyone(other, 7)

    def test_times_from_both_sides(self):
        jobs = Jobs(2, [(0,), (0, 1)])
        for times in (lambda count: jobs * count, lambda count: count * jobs):
            self.assertEqual(times(0), Jobs(2, []))
            self.assertEqual(times(1), jobs)
            self.assertEqual(times(3).jobs, ((0,), (0, 1), (0,), (0, 1), (0,), (0, 1)))
            for count in (4, 5, 1000):
                self.assert_too_many(lambda: times(count))
        self.assertEqual(jobs.jobs, ((0,), (0, 1)))

    def test_times_at_the_edges(self):
        none, seven, single = Jobs(7, []), Jobs.everyone(7, 7), Jobs(0, [()])
        for count in (0, 1, 7, 8, 1000):
            self.assertEqual(none * count, none)
            self.assertEqual(count * none, none)
        self.assertEqual(seven * 1, seven)
        self.assertEqual(0 * seven, none)
        self.assertEqual(7 * single, Jobs(0, [()] * 7))
        self.assert_too_many(lambda: seven * 2)
        self.assert_too_many(lambda: 8 * single)

    def test_side_by_side(self):
        one, other = Jobs(3, [(0, 2), ()]), Jobs(2, [(1,), (0, 1)])
        self.assertEqual(one | other, Jobs(5, [(0, 2), (), (4,), (3, 4)]))
        self.assertEqual(other | one, Jobs(5, [(1,), (0, 1), (2, 4), ()]))
        self.assertEqual((one, other), (Jobs(3, [(0, 2), ()]), Jobs(2, [(1,), (0, 1)])))
        nothing = Jobs(0, [])
        for jobs in few_lists() + [Jobs.everyone(7, 7)]:
            self.assertEqual(nothing | jobs, jobs)
            self.assertEqual(jobs | nothing, jobs)
        self.assertEqual(Jobs(0, [()]) | Jobs(2, [(1,)]), Jobs(2, [(), (1,)]))
        self.assertEqual(Jobs(3, [()] * 3) | Jobs(4, [()] * 4), Jobs(7, [()] * 7))

    def test_side_by_side_too_many(self):
        self.assert_too_many(lambda: Jobs(4, []) | Jobs(4, []))
        self.assert_too_many(lambda: Jobs(7, []) | Jobs(1, []))
        self.assert_too_many(lambda: Jobs(0, [()] * 4) | Jobs(0, [()] * 4))
        self.assert_too_many(lambda: Jobs(1, [()] * 7) | Jobs(1, [()]))
        self.assert_too_many(lambda: Jobs.everyone(7, 7) | Jobs.everyone(7, 7))

    def test_without_people(self):
        self.assertEqual(JOBS - (0, 2), Jobs(2, [(0,), (0, 1), (0,)]))
        self.assertEqual(JOBS - (), JOBS)
        self.assertEqual(JOBS - (0, 1, 2, 3), Jobs(0, [(), (), ()]))
        self.assertEqual(Jobs(0, [()]) - (), Jobs(0, [()]))
        self.assertEqual(Jobs.everyone(7, 7) - (0, 3, 6), Jobs.everyone(4, 7))
        self.assertEqual(JOBS.jobs, ((0, 1), (1, 2, 3), (1,)))
        for jobs in random_lists(5, 60):
            group = tuple(range(0, jobs.size, 2))
            stay = [person for person in range(jobs.size) if person % 2]
            found = jobs - group
            self.assertEqual((found.size, len(found)), (len(stay), len(jobs)))
            self.assertEqual(
                [[stay[person] for person in job] for job in found],
                [[person for person in job if person % 2] for job in jobs],
            )


class ExampleTest(unittest.TestCase):

    def test_the_example(self):
        self.assertEqual(
            [JOBS.open_to((0, 2)), JOBS.outside(0), abs(JOBS), JOBS.turned().jobs],
            [(0, 1), (2, 3), 3, ((0,), (0, 1, 2), (1,), (1,))],
        )
        self.assertEqual(
            [(JOBS - (0, 2)).jobs, (Jobs(1, [(0,)]) | Jobs(2, [(0, 1)])).jobs, JOBS.struck(1, 3).jobs],
            [((0,), (0, 1), (0,)), ((0,), (1, 2)), ((0, 1), (1, 2), (1,))],
        )


if __name__ == "__main__":
    unittest.main()
