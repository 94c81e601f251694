"""The whole document: all its examples in one run; [1] to [4] for each function, class and returned list."""

import doctest
import unittest
from importlib import import_module

from crewlists import errors
from crewlists.asking import Asker, learn
from crewlists.cases import is_walk, settle, walk
from crewlists.changes import is_least, least, least_sizes, may_put, may_strike
from crewlists.dealing import deal, deals, is_deal, placeable, short_part, strength
from crewlists.desk import Desk
from crewlists.evidence import Evidence
from crewlists.exchanges import at_once, both_ways, ins, outs, pairing, path
from crewlists.family import Family
from crewlists.greatest import greatest, lost, places, same
from crewlists.groups import apart, groups, is_group, is_integer, parts, together
from crewlists.house import House
from crewlists.jobs import Jobs
from crewlists.likeness import renaming, symmetries
from crewlists.lists import all_least, all_tight, explains, steps
from crewlists.made import common, helper, parted
from crewlists.moving import admit, both
from crewlists.needs import alone, enough, least_enough, spare
from crewlists.notation import (
    read_evidence, read_family, read_group, read_jobs, show_evidence, show_family, show_group, show_jobs,
)
from crewlists.plans import is_plan, least_plan
from crewlists.reasons import is_answer, is_explained, lists_of
from crewlists.rolls import Roll
from crewlists.sharing import fewest_jobs, share
from crewlists.structure import (
    blocks, clash_within, clashes, closure, hangs, idle, is_closed, is_knot, is_round, knots, needed, round_part,
)
from crewlists.sure import fitting, least_wrong, sure, trial
from crewlists.team import Team
from crewlists.weights import above, room, round_bound, weights
from crewlists.worths import dearest, is_dearest, price
from helpers import PAIRS, odd_values, same_kind

EXAMPLES = """
>>> from crewlists.jobs import Jobs
>>> jobs = Jobs(4, [(0, 1), (1, 2, 3), (1,)])
>>> [jobs.open_to((0, 2)), jobs.outside(0), abs(jobs), jobs.turned().jobs]
[(0, 1), (2, 3), 3, ((0,), (0, 1, 2), (1,), (1,))]
>>> [(jobs - (0, 2)).jobs, (Jobs(1, [(0,)]) | Jobs(2, [(0, 1)])).jobs, jobs.struck(1, 3).jobs]
[((0,), (0, 1), (0,)), ((0,), (1, 2)), ((0, 1), (1, 2), (1,))]
>>> from crewlists.dealing import deal, deals, short_part
>>> [deal(jobs, (0, 1, 3)), short_part(jobs, (0, 1, 2, 3)), list(deals(jobs, (0, 1)))]
[(0, 2, 1), (2, 3), [(0, 1), (0, 2)]]
>>> from crewlists.family import Family
>>> family = Family.of(jobs)
>>> [family.crews, family.strength((2, 3)), (family // (1,)).crews, (family - (1,)).crews, (~family).crews]
[((0, 1, 2), (0, 1, 3)), 1, ((0, 1), (0, 2)), ((0, 1), (0, 2)), ((2,), (3,))]
>>> (Family.uniform(3, 1) + Family.uniform(3, 1)).crews
((0, 1), (0, 2), (1, 2))
>>> from crewlists.structure import blocks, clashes, closure, knots, needed
>>> [clashes(family), knots(family), needed(family), closure(family, (2,)), blocks(family)]
[[(2, 3)], [(), (2, 3)], (0, 1), (2, 3), [(0,), (1,), (2, 3)]]
>>> from crewlists.reasons import lists_of
>>> from crewlists.weights import weights
>>> [weights(family), lists_of(family)[1].jobs]
[[((), 1), ((2, 3), 2)], ((0, 1), (0, 1), (0, 1, 2, 3))]
>>> pairs = Family.uniform(2, 1) | Family.uniform(2, 1) | Family.uniform(2, 1)
>>> [weights(pairs.capped(2)), lists_of(pairs.capped(2))]
[[((), -1), ((0, 1), 1), ((2, 3), 1), ((4, 5), 1), ((0, 1, 2, 3, 4, 5), 0)], ('below', (), -1)]
>>> from crewlists.greatest import greatest, places, same
>>> [greatest(jobs).jobs, places(jobs)]
[((0, 1), (0, 1), (0, 1, 2, 3)), (0, 2, 1)]
>>> [same(jobs, Jobs(4, [(0,), (1,), (2, 3)]))[0], same(jobs, Jobs(4, [(0, 1), (2, 3)]))]
['same', ('apart', (0, 1))]
>>> from crewlists.changes import least, least_sizes, may_put, may_strike
>>> [may_put(jobs, 0, 2), may_put(jobs, 2, 0), may_strike(jobs, 1, 1), may_strike(jobs, 1, 3)]
[(2, 3), None, None, (0, 1, 3)]
>>> [least(jobs).jobs, least_sizes(family)]
[((0,), (2, 3), (1,)), (1, 1, 2)]
>>> from crewlists.rolls import Roll
>>> roll = Roll.of(jobs)
>>> [roll.strength((2, 3)), roll.short_part((0, 2, 3)), roll.greatest().jobs, roll.parting(Roll(4, [(0, 1), (2, 3)]))]
[1, (2, 3), ((0, 1), (0, 1), (0, 1, 2, 3)), (0, 1)]
>>> from crewlists.cases import settle
>>> from crewlists.evidence import Evidence
>>> settle(Evidence(2, [((0, 1), False), ((0,), True)]))[1].jobs
((0, 1),)
>>> settle(Evidence(3, [((0, 1), True), ((2,), True), ((0, 2), False), ((1, 2), False)]))[1][:5]
[('ask', (0, 1), 1, 8), ('ask', (2,), 2, 7), ('ask', (0, 2), 3, 4), ('wrong', (2,)), ('ask', (1, 2), 5, 6)]
>>> from crewlists.worths import dearest, price
>>> dearest(family, (5, -2, 7, 7), 2)
((0, 2), [(7, (2, 3), 1), (5, (0, 2, 3), 2), (-2, (0, 1, 2, 3), 2)])
>>> [price(family, (5, -2, 7, 7), 2, 1), price(family, (5, -2, 7, 7), 3, 1)]
[('from', 5), ('always',)]
>>> from crewlists.notation import read_evidence, show_family, show_jobs
>>> [show_jobs(jobs), show_family(family), read_evidence('3 1: +ab =c +-').sightings]
['4: ab bcd b', '4: abc abd', (((0, 1), True), ((2,), False), ((), True))]
"""

JOBS = Jobs(4, [(0, 1), (1, 2, 3), (1,)])
TIGHT = Jobs(4, [(0, 1), (0, 1), (0, 1, 2, 3)])
FAMILY = Family.of(JOBS)
SMALL = Family.uniform(4, 2)
ROLL = Roll.of(JOBS)
EVIDENCE = Evidence(2, [((0,), True), ((1,), False)], 1)
NEVER = Evidence(2, [((), False), ((0,), True)])
TEAM = Team(SMALL, (0, 1))
HOUSE = House(2, 1)


def called(group):
    """Answer as the family says."""
    return group in FAMILY


# Each function and each method that changes nothing, with arguments of its kinds; lists where lists are taken.
CALLS = [
    (is_integer, [1]), (is_group, [3, (0, 1)]), (groups, [3]), (parts, [(0, 2)]), (together, [(0,), (1,)]),
    (apart, [(0, 1), (1,)]), (Jobs, [2, [(0,), (1,)]]), (JOBS.open_to, [(0, 2)]), (JOBS.outside, [0]),
    (JOBS.put, [0, 2]), (JOBS.struck, [0, 1]), (JOBS.picked, [(0, 2)]), (JOBS.renamed, [[3, 2, 1, 0]]),
    (JOBS.turned, []), (JOBS.hired, [(0,)]), (Jobs.everyone, [3, 2]), (short_part, [JOBS, (0, 2, 3)]),
    (strength, [JOBS, (2, 3)]), (deal, [JOBS, (0, 1)]), (is_deal, [JOBS, (0, 1), [0, 1]]), (placeable, [JOBS]),
    (admit, [JOBS, (0,), (0,), 1]), (both, [JOBS, (0, 3), (0, 2)]), (Family, [3, [(0, 1), (0, 2)]]),
    (FAMILY.strength, [(2, 3)]), (FAMILY.renamed, [[3, 2, 1, 0]]), (FAMILY.capped, [2]), (Family.of, [JOBS]),
    (Family.uniform, [3, 2]), (hangs, [FAMILY, (2,), 3]), (closure, [FAMILY, (2,)]), (round_part, [FAMILY, (0, 2, 3)]),
    (is_closed, [FAMILY, (2,)]), (is_round, [FAMILY, (2, 3)]), (is_knot, [FAMILY, ()]),
    (clash_within, [FAMILY, (0, 2), 3]), (clashes, [FAMILY]), (knots, [FAMILY]), (idle, [FAMILY]), (needed, [FAMILY]),
    (blocks, [FAMILY]), (weights, [FAMILY]), (above, [FAMILY, (2,)]), (room, [FAMILY, (2,)]),
    (round_bound, [FAMILY, [(2, 3), ()]]), (lists_of, [FAMILY]), (lists_of, [PAIRS]),
    (is_answer, [FAMILY, ["jobs", TIGHT]]), (is_explained, [FAMILY]), (greatest, [JOBS]), (places, [JOBS]),
    (lost, [JOBS, TIGHT]), (same, [JOBS, TIGHT]), (enough, [JOBS, (0, 1)]), (least_enough, [JOBS]), (spare, [JOBS]),
    (alone, [FAMILY, 0]), (may_put, [JOBS, 0, 2]), (may_strike, [JOBS, 1, 3]), (least, [JOBS]), (is_least, [JOBS]),
    (least_sizes, [FAMILY]), (Roll, [2, [(0,), (1,)]]), (Roll.of, [JOBS]), (ROLL.strength, [(2, 3)]),
    (ROLL.short_part, [(2, 3)]), (ROLL.deal, [(0, 1)]), (ROLL.greatest, []), (ROLL.alike, [Roll.of(TIGHT)]),
    (ROLL.parting, [Roll(4, [])]), (explains, [FAMILY, JOBS]), (all_tight, [FAMILY]), (all_least, [FAMILY]),
    (steps, [JOBS, TIGHT]), (fewest_jobs, [FAMILY, 1]), (share, [FAMILY, 2, 3]), (share, [FAMILY, 0, 1]),
    (share, [SMALL, 0, 1]), (parted, [FAMILY, FAMILY, (0, 2, 3)]), (common, [FAMILY, SMALL]), (helper, [FAMILY, (2,)]),
    (renaming, [FAMILY, FAMILY]), (symmetries, [FAMILY]), (Evidence, [2, [((0,), True)], 1]),
    (EVIDENCE.against, [Family.uniform(2, 1)]), (EVIDENCE.fits, [Family.uniform(2, 1)]),
    (is_walk, [NEVER, (), [("wrong", (0,))]]), (walk, [EVIDENCE]), (walk, [EVIDENCE, (((0, 1), False),)]),
    (settle, [EVIDENCE]), (settle, [NEVER]), (sure, [EVIDENCE, (0,)]), (sure, [NEVER, (0,)]), (fitting, [EVIDENCE]),
    (trial, [EVIDENCE]), (least_wrong, [NEVER]), (least_wrong, [EVIDENCE]), (is_plan, [NEVER, 1, []]),
    (least_plan, [EVIDENCE]), (least_plan, [NEVER]), (learn, [4, called]), (dearest, [FAMILY, [5, -2, 7, 7], 2]),
    (is_dearest, [FAMILY, [5, -2, 7, 7], 2, (0, 2)]), (price, [FAMILY, [5, -2, 7, 7], 2, 1]),
    (ins, [SMALL, (0, 1), 0]), (outs, [SMALL, (0, 1), 2]), (both_ways, [SMALL, (0, 1), (2, 3), 0]),
    (pairing, [SMALL, (0, 1), (2, 3)]), (at_once, [JOBS, (0, 1, 2), (0, 1, 3)]), (path, [SMALL, (0, 1), (2, 3)]),
    (Team, [SMALL, (0, 1)]), (show_group, [(0, 2)]), (show_jobs, [JOBS]), (show_family, [FAMILY]),
    (show_evidence, [EVIDENCE]), (read_group, ["ab"]), (read_jobs, ["2: a"]), (read_family, ["2: a b"]),
    (read_evidence, ["2 0: +a"]), (HOUSE.ask, [(0,)]), (HOUSE.until, [0]), (HOUSE.branch, []), (House, [3, 2]),
    (Desk, [3]), (Asker, [FAMILY]),
]

# Those of the functions above that return whether something holds.
TRUTHS = (
    is_integer, is_group, is_deal, hangs, is_closed, is_round, is_knot, is_answer, is_explained, enough, is_least,
    explains, is_walk, is_plan, is_dearest,
)


def plain(thing):
    """Return what may be seen of a thing, in lists, tuples and plain values."""
    if isinstance(thing, (list, tuple)):
        return thing.__class__(plain(part) for part in thing)
    if isinstance(thing, (Jobs, Roll)):
        return thing.__class__.__name__, thing.size, thing.jobs
    if isinstance(thing, Family):
        return "Family", thing.size, thing.crews, thing.full, list(thing), len(thing)
    if isinstance(thing, Evidence):
        return "Evidence", thing.size, thing.sightings, thing.wrong
    if isinstance(thing, Team):
        return "Team", plain(thing.family), thing.crew, thing.log
    if isinstance(thing, House):
        return "House", thing.size, thing.slack, thing.told, plain(thing.evidence), thing.log
    if isinstance(thing, Desk):
        return "Desk", plain(thing.house)
    if isinstance(thing, Asker):
        return "Asker", thing.asked
    return thing


def lists_in(thing):
    """Return all lists that are a thing or in it."""
    if not isinstance(thing, (list, tuple)):
        return []
    found = [thing] if isinstance(thing, list) else []
    return found + [inner for part in thing for inner in lists_in(part)]


class ExamplesTest(unittest.TestCase):

    def test_all_in_one_run(self):
        test = doctest.DocTestParser().get_doctest(EXAMPLES, {}, "examples", None, 0)
        told = []
        runner = doctest.DocTestRunner(verbose=False)
        result = runner.run(test, out=told.append)
        self.assertEqual((result.failed, "".join(told)), (0, ""))
        self.assertEqual(result.attempted, EXAMPLES.count(">>>"))


class CallsTest(unittest.TestCase):
    """[3]: no function changes its arguments; results depend on them alone; lists are new."""

    def test_arguments_and_objects_stay(self):
        objects = [JOBS, TIGHT, FAMILY, SMALL, ROLL, EVIDENCE, NEVER, TEAM, HOUSE, PAIRS]
        before = [plain(thing) for thing in objects]
        for function, given in CALLS:
            seen = plain(given)
            function(*given)
            self.assertTrue(same_kind(plain(given), seen), function)
        self.assertTrue(same_kind([plain(thing) for thing in objects], before))

    def test_the_same_result_each_time(self):
        for function, given in CALLS:
            self.assertTrue(same_kind(plain(function(*given)), plain(function(*given))), function)

    def test_lists_are_new(self):
        with_lists = 0
        for function, given in CALLS:
            found = function(*given)
            expected = plain(found)
            mine = lists_in(found)
            with_lists += bool(mine)
            for other in lists_in(function(*given)) + lists_in(given):
                self.assertFalse(any(one is other for one in mine), function)
            for one in mine:
                one.append(None)
                one[0] = None
            self.assertTrue(same_kind(plain(function(*given)), expected), function)
        self.assertGreater(with_lists, 25)

    def test_objects_copy_what_they_are_given(self):
        for kind, rows in ((Jobs, [(0,), (1,)]), (Family, [(0,), (1,)]), (Roll, [(0,)]), (Evidence, [((0,), True)])):
            found = kind(2, rows)
            seen = plain(found)
            rows.append(None)
            rows[0] = None
            self.assertTrue(same_kind(plain(found), seen))

    def test_whether_something_holds(self):
        for function, given in CALLS:
            if function in TRUTHS:
                self.assertIsInstance(function(*given), bool)
        for found in (EVIDENCE.fits(SMALL), ROLL.alike(ROLL), (0,) in FAMILY, 0 in TEAM, Asker(FAMILY)((0,))):
            self.assertIsInstance(found, bool)

    def test_each_function_is_called(self):
        names = {function.__name__ for function, _ in CALLS}
        for module in ("groups", "moving", "structure", "weights", "reasons", "greatest", "needs", "changes", "lists",
                       "sharing", "made", "likeness", "cases", "sure", "plans", "asking", "worths", "exchanges",
                       "notation"):
            path_of = "crewlists." + module
            for name, thing in vars(import_module(path_of)).items():
                own = getattr(thing, "__module__", None) == path_of and not name.startswith("_")
                if own and not name.startswith("as_") and name not in INNER:
                    self.assertIn(name, names)


# Public names that are no part of the interface.
INNER = (
    "in_order", "others", "is_part", "renumbered", "shifted", "recalled", "sum_above", "explained", "jobs_above",
    "first_lost", "first_apart", "swapped",
)


class AnyValueTest(unittest.TestCase):
    """[2], [4]: what takes any value takes each, and truths are no integers."""

    def test_whether_a_value_is_right(self):
        things = odd_values() + [JOBS, FAMILY, ROLL, EVIDENCE, TEAM, HOUSE]
        things += [walk(EVIDENCE), weights(FAMILY), lists_of(PAIRS)]
        for thing in things:
            for found in (
                is_integer(thing), is_group(5, thing), is_deal(JOBS, (0, 1), thing), is_answer(FAMILY, thing),
                is_walk(EVIDENCE, (), thing), is_plan(EVIDENCE, 9, thing), is_dearest(FAMILY, (1, 1, 1, 1), 2, thing),
                thing in FAMILY, thing in TEAM,
            ):
                self.assertIsInstance(found, bool)
            for one in (JOBS, FAMILY, ROLL, EVIDENCE, TEAM):
                self.assertIs(one == thing, thing is one)

    def test_truths_are_no_integers(self):
        found = [
            is_integer(True), is_group(2, (False, True)), is_deal(JOBS, (0,), (False,)), (True,) in FAMILY,
            True in TEAM, is_dearest(FAMILY, (1, 1, 1, 1), 1, (True,)),
            is_walk(Evidence(0, []), (), [("fits", (False,))]),
            is_walk(Evidence(1, [((), False)]), (), [("wrong", (False,))]), is_answer(PAIRS, ("below", (), True)),
        ]
        self.assertEqual(found, [False] * 9)

    def test_the_first_argument_that_is_not_as_described(self):
        for kind, many in ((Jobs, 2), (Roll, 2), (Family, 2), (Evidence, 3), (House, 2), (Team, 2)):
            for thing in odd_values() + [JOBS, HOUSE, TEAM]:
                if not (isinstance(thing, int) and thing == 8 and kind is Roll):
                    with self.assertRaises(errors.Wrong) as caught:
                        kind(*[thing] * many)
                    self.assertTrue(same_kind(caught.exception.place, 0), (kind, thing))


class ErrorsTest(unittest.TestCase):
    """[4]: errors keep the objects themselves, and nothing is changed by a call that raises one."""

    def test_the_objects_themselves(self):
        team, house, desk = Team(SMALL, (0, 1)), House(2), Desk(2)
        for thing in odd_values() + [JOBS, team, house]:
            with self.assertRaises(errors.NotInTeam) as caught:
                team[thing]
            self.assertIs(caught.exception.person, thing)
            with self.assertRaises(errors.NoEntry) as caught:
                house.forget(thing)
            self.assertIs(caught.exception.at, thing)
            with self.assertRaises(errors.NoSwap) as caught:
                team[0] = thing
            self.assertIs(caught.exception.newcomer, thing)
        line = "".join(["no", " ", "line"])
        with self.assertRaises(errors.NoCommand) as caught:
            desk.execute(line)
        self.assertIs(caught.exception.line, line)
        self.assertEqual((plain(team), plain(house)), (plain(TEAM), plain(House(2))))

    def test_each_is_an_error_of_the_package(self):
        def pairs():
            return learn(3, lambda group: group in ((0,), (1,), (2,), (0, 1)))

        calls = {
            "Wrong": lambda: Jobs(8, []), "TooMany": lambda: JOBS * 3, "Unlike": lambda: JOBS + Jobs(1, []),
            "NoJob": lambda: Jobs(1, [(1,)]), "NoCrew": lambda: Family(1, []), "BadCrew": lambda: Family(1, [0]),
            "Uneven": lambda: Family(1, [(), (0,)]), "NoExchange": lambda: Family(4, [(0, 1), (2, 3)]),
            "NotPlaceable": lambda: deal(JOBS, (2, 3)), "NotFilled": lambda: both(Jobs(1, [(0,), (0,)]), (), (0, 1)),
            "NotExplained": lambda: share(PAIRS, 0, 1), "NotAlike": lambda: steps(TIGHT, Jobs.everyone(4, 3)),
            "BadSighting": lambda: Evidence(1, [0]), "NoFamily": pairs, "NotInTeam": lambda: TEAM[2],
            "NoSwap": lambda: TEAM.__setitem__(0, 0), "Nothing": HOUSE.undo, "NoEntry": lambda: HOUSE.forget(0),
            "NoText": lambda: read_group("ba"), "NoCommand": lambda: Desk(1).execute("can b"),
        }
        self.assertEqual(len(calls), 20)
        for name, call in calls.items():
            with self.assertRaises(errors.CrewError) as caught:
                call()
            self.assertEqual(caught.exception.__class__.__name__, name)

    def test_deals_raises_nothing(self):
        self.assertEqual(list(deals(JOBS, (2, 3))), [])


if __name__ == "__main__":
    unittest.main()
