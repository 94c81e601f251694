"""[2], [3], [4], [82]: a crew at work."""

import unittest
from random import Random

from crewlists.errors import CrewError, NoSwap, NotInTeam, Nothing, Unlike, Wrong
from crewlists.evidence import Evidence
from crewlists.exchanges import ins
from crewlists.family import Family
from crewlists.jobs import Jobs
from crewlists.team import Team
from helpers import LINES, PAIRS, all_families, large_families, minus, nested, odd_values, same_kind, union

FAMILY = Family.of(Jobs(4, [(0, 1), (1, 2, 3), (1,)]))


def families():
    """Return families of every kind, some without an explanation."""
    return all_families(2) + all_families(3) + all_families(4)[::9] + large_families()


def done(team, *pairs):
    """Return the team with exchanges done."""
    for person, newcomer in pairs:
        team[person] = newcomer
    return team


def snapshot(team):
    """Return all that may be seen of a team."""
    return team.family, team.crew, team.log, len(team), list(team)


class ConstructorTest(unittest.TestCase):

    def assert_wrong(self, place, *given):
        with self.assertRaises(Wrong) as caught:
            Team(*given)
        self.assertTrue(same_kind(caught.exception.place, place))

    def test_attributes(self):
        for family in families():
            for crew in family.crews:
                team = Team(family, crew)
                self.assertEqual(team.family, family)
                self.assertTrue(same_kind(team.crew, crew))
                self.assertTrue(same_kind(team.log, []))
                self.assertGreaterEqual(set(vars(team)), {"family", "crew"})

    def test_no_family(self):
        things = odd_values() + [Jobs(4, []), Evidence(3, []), FAMILY.crews, list(FAMILY), Team(FAMILY, (0, 1, 2))]
        for thing in things:
            self.assert_wrong(0, thing, (0, 1, 2))
            self.assert_wrong(0, thing, None)

    def test_no_crew(self):
        bad = odd_values() + [
            (0, 1), (0, 1, 2, 3), (0, 2, 3), (1, 0, 2), [0, 1, 2], (False, 1, 2), (0, True, 2), (0, True, 3), "012",
            (0, 1, "2"), (0, 1, 4), (-1, 0, 1), {0: 1}, range(3), nested(20), FAMILY, Team(FAMILY, (0, 1, 2)),
            ((0, 1, 2),), (0, 1, 2, 2), (0, 1, [2]),
        ]
        for thing in bad:
            self.assert_wrong(1, FAMILY, thing)
        for thing in odd_values():
            if not same_kind(thing, ()):
                self.assert_wrong(1, Family.uniform(3, 0), thing)
        for family in families():
            for group in family:
                if len(group) < family.full:
                    self.assert_wrong(1, family, group)

    def test_arguments_by_position(self):
        with self.assertRaises(TypeError):
            Team(FAMILY)
        with self.assertRaises(TypeError):
            Team(FAMILY, (0, 1, 2), ())


class MembersTest(unittest.TestCase):

    def test_length_iteration_and_members(self):
        for family in families():
            for crew in family.crews:
                team = Team(family, crew)
                self.assertTrue(same_kind(len(team), len(crew)))
                self.assertTrue(same_kind(list(team), list(crew)))
                self.assertEqual([person for person in team], list(crew))
                for person in range(-1, 9):
                    self.assertIs(person in team, person in crew)

    def test_any_value_is_a_member_or_not(self):
        team = Team(Family.uniform(3, 2), (0, 1))
        for thing in odd_values() + [True, False, "0", (0,), [0], None, {0}, nested(20), team]:
            self.assertIs(thing in team, False)
        self.assertIs(0 in team, True)

    def test_who_may_come(self):
        for family in families():
            for crew in family.crews:
                team = Team(family, crew)
                for person in crew:
                    self.assertTrue(same_kind(team[person], ins(family, crew, person)))

    def test_who_is_not_in_the_team(self):
        team = Team(Family.uniform(4, 2), (0, 1))
        for thing in odd_values() + [2, 3, True, False, -1, (0,), [0], {0: 1}, {0}, "0", None]:
            for deed in (lambda: team[thing], lambda: done(team, (thing, 2)), lambda: done(team, (thing, None))):
                with self.assertRaises(NotInTeam) as caught:
                    deed()
                self.assertIs(caught.exception.person, thing)
        self.assertEqual(snapshot(team), (Family.uniform(4, 2), (0, 1), [], 2, [0, 1]))


class ExchangeTest(unittest.TestCase):

    def test_deeds_by_turns_on_two_teams(self):
        chance = Random(331)
        for family in families() + [PAIRS, LINES, Family.uniform(7, 3)]:
            teams = [Team(family, chance.choice(family.crews)) for _ in range(2)]
            starts = [team.crew for team in teams]
            models = [[], []]
            for _ in range(30):
                at = chance.randrange(2)
                team, log = teams[at], models[at]
                swaps = [(person, newcomer) for person in team for newcomer in team[person]]
                if log and chance.randrange(3) == 0:
                    self.assertIsNone(team.undo())
                    log.pop()
                elif swaps:
                    person, newcomer = chance.choice(swaps)
                    team[person] = newcomer
                    log.append((person, newcomer))
                for start, model, each in zip(starts, models, teams):
                    crew = start
                    for person, newcomer in model:
                        crew = union(minus(crew, (person,)), (newcomer,))
                    self.assertTrue(same_kind(each.crew, crew))
                    self.assertTrue(same_kind(each.log, model))
                    self.assertEqual(list(each), list(crew))
                self.assertEqual(teams[0] - teams[1], len(minus(teams[0].crew, teams[1].crew)))
                self.assertEqual(teams[0] == teams[1], teams[0].crew == teams[1].crew)

    def test_no_swap(self):
        team = Team(Family(4, [(0, 1), (0, 2)]), (0, 1))
        # Nobody comes for 0; for 1, just 2.
        for person, newcomers in ((0, [0, 1, 2, 3, 4, -1]), (1, [0, 1, 3, 4, -1, True, "2", (2,), [2]])):
            for newcomer in odd_values() + newcomers:
                with self.assertRaises(NoSwap) as caught:
                    team[person] = newcomer
                self.assertTrue(same_kind(caught.exception.person, person))
                self.assertIs(caught.exception.newcomer, newcomer)
                self.assertEqual((team.crew, team.log), ((0, 1), []))
        team[1] = 2
        self.assertEqual((team.crew, team.log), ((0, 2), [(1, 2)]))

    def test_a_truth_is_no_newcomer(self):
        team = Team(Family.uniform(3, 1), (2,))
        for newcomer in (True, False):
            with self.assertRaises(NoSwap) as caught:
                team[2] = newcomer
            self.assertIs(caught.exception.newcomer, newcomer)
        self.assertEqual(team.crew, (2,))

    def test_not_in_team_ahead_of_no_swap(self):
        team = Team(FAMILY, (0, 1, 2))
        for newcomer in (3, 9, None, [3], True):
            with self.assertRaises(NotInTeam):
                team[3] = newcomer
        with self.assertRaises(NoSwap):
            team[0] = 3

    def test_what_cannot_be_hashed(self):
        team = Team(FAMILY, (0, 1, 2))
        for thing in ([], {}, [3], {3}, ([],), {3: []}):
            self.assertIs(thing in team, False)
            with self.assertRaises(NotInTeam) as caught:
                team[thing]
            self.assertIs(caught.exception.person, thing)
            with self.assertRaises(NoSwap) as caught:
                team[2] = thing
            self.assertIs(caught.exception.newcomer, thing)

    def test_undo(self):
        team = Team(Family.uniform(5, 2), (0, 1))
        done(team, (0, 4), (1, 0), (4, 3), (0, 4))
        crews = []
        while team.log:
            crews.append(team.crew)
            self.assertIsNone(team.undo())
        self.assertEqual(crews, [(3, 4), (0, 3), (0, 4), (1, 4)])
        self.assertEqual(team.crew, (0, 1))
        for _ in range(2):
            with self.assertRaises(Nothing):
                team.undo()
        self.assertEqual(snapshot(team), (Family.uniform(5, 2), (0, 1), [], 2, [0, 1]))
        done(team, (1, 2))
        self.assertEqual((team.crew, team.log), ((0, 2), [(1, 2)]))

    def test_the_log_is_a_new_list(self):
        team = done(Team(FAMILY, (0, 1, 2)), (2, 3))
        team.log.append((3, 2))
        found = team.log
        found.clear()
        self.assertEqual(team.log, [(2, 3)])
        self.assertIsNot(team.log, team.log)

    def test_the_log_is_only_read(self):
        team = Team(FAMILY, (0, 1, 2))
        self.assertIsInstance(Team.log, property)
        with self.assertRaises(AttributeError):
            team.log = []

    def test_other_teams_and_the_family_stay(self):
        one, other = Team(FAMILY, (0, 1, 2)), Team(FAMILY, (0, 1, 2))
        done(one, (2, 3))
        self.assertEqual((other.crew, other.log), ((0, 1, 2), []))
        self.assertEqual(FAMILY, Family(4, [(0, 1, 2), (0, 1, 3)]))


class DifferenceTest(unittest.TestCase):

    def test_the_fewest_exchanges(self):
        for family in families():
            equal = Family(family.size, family.crews)
            for one in family.crews[::2]:
                for other in family.crews:
                    found = Team(family, one) - Team(equal, other)
                    self.assertTrue(same_kind(found, len(minus(one, other))))

    def test_unlike(self):
        for one, other in ((Family.uniform(3, 1), Family.uniform(3, 2)), (Family.uniform(3, 1), Family.uniform(4, 1))):
            for left, right in ((one, other), (other, one)):
                with self.assertRaises(Unlike):
                    Team(left, left.crews[0]) - Team(right, right.crews[0])
        with self.assertRaises(Unlike):
            Team(Family(3, [(0,)]), (0,)) - Team(Family(3, [(0,), (1,)]), (0,))


class EqualTest(unittest.TestCase):

    def test_families_and_crews(self):
        one = Team(FAMILY, (0, 1, 2))
        self.assertIs(one == Team(Family(4, FAMILY.crews[::-1]), (0, 1, 2)), True)
        self.assertIs(one != Team(FAMILY, (0, 1, 2)), False)
        others = [Team(FAMILY, (0, 1, 3)), Team(Family(4, [(0, 1, 2)]), (0, 1, 2))]
        for other in others + [Team(Family.uniform(3, 3), (0, 1, 2))]:
            self.assertIs(one == other, False)
            self.assertIs(other == one, False)
            self.assertIs(one != other, True)

    def test_the_log_does_not_count(self):
        one, other = Team(FAMILY, (0, 1, 3)), done(Team(FAMILY, (0, 1, 2)), (2, 3))
        self.assertIs(one == other, True)

    def test_nothing_else(self):
        for team in (Team(FAMILY, (0, 1, 2)), Team(Family.uniform(2, 0), ())):
            things = [FAMILY, team.crew, list(team.crew), (team.family, team.crew), Jobs(4, []), Evidence(4, [])]
            for thing in odd_values() + things:
                self.assertIs(team == thing, False)
                self.assertIs(thing == team, False)


class Odd(Exception):
    """An error that the package does not know."""


class DuringTest(unittest.TestCase):

    def setUp(self):
        self.team = done(Team(Family.uniform(5, 2), (0, 1)), (0, 2))
        self.before = snapshot(self.team)

    def test_it_is_the_team_itself(self):
        self.assertIs(self.team.during(lambda team: team), self.team)
        self.assertEqual(self.team.during(lambda team: (team.crew, team.log)), ((1, 2), [(0, 2)]))
        self.assertIsNone(self.team.during(lambda team: None))
        self.assertEqual(snapshot(self.team), self.before)

    def test_exchanges_and_undo(self):
        def deed(team):
            team.undo()
            done(team, (0, 3), (1, 4), (3, 0))
            team.undo()
            return snapshot(team)[1:]

        self.assertEqual(self.team.during(deed), ((3, 4), [(0, 3), (1, 4)], 2, [3, 4]))
        self.assertEqual(snapshot(self.team), self.before)
        self.assertIsNone(self.team.undo())
        self.assertEqual((self.team.crew, self.team.log), ((0, 1), []))

    def test_errors_are_passed_on(self):
        for error in (Odd("odd"), KeyError(3), CrewError("own"), NoSwap(1, [])):
            def deed(team):
                done(team, (1, 4), (2, 3))
                raise error

            with self.assertRaises(error.__class__) as caught:
                self.team.during(deed)
            self.assertIs(caught.exception, error)
            self.assertEqual(snapshot(self.team), self.before)

    def test_errors_of_the_team(self):
        with self.assertRaises(NotInTeam):
            self.team.during(lambda team: done(team, (1, 4), (1, 3)))
        with self.assertRaises(Nothing):
            self.team.during(lambda team: [team.undo() for _ in range(2)])
        self.assertEqual(snapshot(self.team), self.before)

    def test_one_within_another(self):
        def inner(team):
            done(team, (1, 3))
            return team.crew

        def outer(team):
            done(team, (2, 4))
            found = [team.crew, team.during(inner), team.crew, team.log]
            with self.assertRaises(NotInTeam):
                team.during(lambda each: done(each, (4, 0), (4, 2)))
            return found + [team.crew]

        found = self.team.during(outer)
        self.assertEqual(found, [(1, 4), (3, 4), (1, 4), [(0, 2), (2, 4)], (1, 4)])
        self.assertEqual(snapshot(self.team), self.before)

    def test_other_teams_keep_what_is_done(self):
        other = Team(Family.uniform(5, 2), (0, 1))
        self.team.during(lambda team: done(other, (0, 4)))
        self.assertEqual((other.crew, other.log), ((1, 4), [(0, 4)]))


if __name__ == "__main__":
    unittest.main()
