"""[2], [3], [4], [90]: a house that collects sightings."""

import unittest
from random import Random

from crewlists.errors import BadSighting, CrewError, NoEntry, Nothing, TooMany, Wrong
from crewlists.evidence import Evidence
from crewlists.house import House
from crewlists.sure import sure
from helpers import all_groups, drawn, nested, odd_values, same_kind


def told(size, *sightings, slack=0):
    """Return a House that is told sightings."""
    house = House(size, slack)
    for group, truth in sightings:
        house[group] = truth
    return house


def snapshot(house):
    """Return all that may be seen of a house."""
    return (
        house.size, house.slack, house.told, house.log, len(house), list(house), house.evidence.size,
        house.evidence.sightings, house.evidence.wrong, [house[group] for group in all_groups(house.size)],
    )


def whole(house):
    """Return all that may be seen of a house, and what comes with each redo."""
    found, copy = [snapshot(house)], house.branch()
    while True:
        try:
            copy.redo()
        except Nothing:
            return found
        found.append(snapshot(copy))


def do(house, deed):
    """Do a deed as the log writes it."""
    if deed[0] == "tell":
        house[deed[1]] = deed[2]
    elif deed[0] == "forget":
        house.forget(deed[1])
    else:
        house.allow(deed[1])


class Model:
    """A slow house: the deeds that are done, gone through anew each time."""

    def __init__(self, size, slack):
        self.size, self.first = size, slack
        self.done, self.back = [], []

    def seen(self):
        rows, slack = [], self.first
        for deed in self.done:
            if deed[0] == "tell":
                rows.append(deed[1:])
            elif deed[0] == "forget":
                del rows[deed[1]]
            else:
                slack = deed[1]
        truths = [tuple(truth for other, truth in rows if other == group) for group in all_groups(self.size)]
        rows = tuple(rows)
        return (self.size, slack, rows, list(self.done), len(rows), list(rows), self.size, rows, slack, truths)


def drawn_deed(chance, house):
    """Return a deed that may be done to a house."""
    kind = chance.randrange(8)
    if kind < 2 and len(house):
        return ("forget", chance.randrange(len(house)))
    if kind < 4:
        return ("slack", chance.randint(0, 40))
    return ("tell", chance.choice(all_groups(house.size)), chance.choice([True, False]))


class ConstructorTest(unittest.TestCase):

    def assert_wrong(self, place, *given):
        with self.assertRaises(Wrong) as caught:
            House(*given)
        self.assertTrue(same_kind(caught.exception.place, place))

    def test_attributes(self):
        for size in range(7):
            for slack in (0, 1, 40):
                house = House(size, slack)
                self.assertTrue(same_kind((house.size, house.slack, house.told, house.log), (size, slack, (), [])))
                self.assertEqual(house.evidence, Evidence(size, [], slack))
                self.assertGreaterEqual(set(vars(house)), {"size", "told", "evidence"})

    def test_slack_is_0_by_default(self):
        self.assertTrue(same_kind(House(3).slack, 0))

    def test_wrong_size(self):
        for size in odd_values() + [7, -1, (), "3", House(3), 10 ** 30]:
            self.assert_wrong(0, size)
            self.assert_wrong(0, size, 41)
            self.assert_wrong(0, size, None)

    def test_wrong_slack(self):
        for slack in odd_values() + [41, -1, (), "0", True, False, House(3)]:
            if not same_kind(slack, 8):
                self.assert_wrong(1, 3, slack)
                self.assert_wrong(1, 0, slack)
        for slack in range(41):
            self.assertEqual(House(0, slack).slack, slack)

    def test_properties_are_only_read(self):
        house = House(3)
        for name in ("slack", "log"):
            self.assertIsInstance(getattr(House, name), property)
            with self.assertRaises(AttributeError):
                setattr(house, name, 1)

    def test_two_houses(self):
        one, other = House(2), House(2)
        one[0,] = True
        self.assertEqual((one.told, other.told), ((((0,), True),), ()))
        self.assertIs(one == other, False)
        self.assertIs(one == one, True)


class DeedsTest(unittest.TestCase):

    def test_by_turns_against_a_slow_house(self):
        chance = Random(341)
        for size in (0, 1, 2, 3, 6):
            for _ in range(4):
                slack = chance.randint(0, 40)
                house, model = House(size, slack), Model(size, slack)
                for _ in range(70):
                    kind = chance.randrange(5)
                    if kind == 0 and model.done:
                        self.assertIsNone(house.undo())
                        model.back.append(model.done.pop())
                    elif kind == 1 and model.back:
                        self.assertIsNone(house.redo())
                        model.done.append(model.back.pop())
                    elif len(model.done) < 60 and len(house) < 40:
                        deed = drawn_deed(chance, house)
                        do(house, deed)
                        model.done.append(deed)
                        model.back.clear()
                    self.assertTrue(same_kind(snapshot(house), model.seen()))

    def test_tell(self):
        house = House(3)
        house[0, 1] = True
        house[(2,)] = False
        house[()] = True
        house[0, 1] = False
        expected = (((0, 1), True), ((2,), False), ((), True), ((0, 1), False))
        self.assertTrue(same_kind(house.told, expected))
        self.assertTrue(same_kind(house.log, [("tell",) + sighting for sighting in expected]))
        self.assertEqual(house.evidence, Evidence(3, expected))

    def test_the_truths_of_a_group(self):
        house = told(3, ((0, 1), True), ((), False), ((0, 1), False), ((0, 1), True))
        self.assertTrue(same_kind(house[0, 1], (True, False, True)))
        self.assertTrue(same_kind(house[()], (False,)))
        self.assertTrue(same_kind(house[2,], ()))
        house.forget(2)
        self.assertTrue(same_kind(house[0, 1], (True, True)))

    def test_what_is_no_sighting(self):
        house = told(3, ((0,), True))
        before = snapshot(house)
        groups = odd_values() + [(3,), (0, 3), (1, 0), (0, 0), [0], (True,), (False, 1), 0, None, "a", nested(20), {}]
        for group in groups:
            for truth in (True, False, None):
                with self.assertRaises(BadSighting) as caught:
                    house[group] = truth
                self.assertTrue(same_kind(caught.exception.at, 0))
        for truth in odd_values() + [1, 0, None, "True", (True,), [], Evidence(3, [])]:
            if not isinstance(truth, bool):
                with self.assertRaises(BadSighting) as caught:
                    house[0, 1] = truth
                self.assertTrue(same_kind(caught.exception.at, 0))
        self.assertEqual(snapshot(house), before)

    def test_forget(self):
        house = told(3, ((0,), True), ((1,), False), ((2,), True))
        self.assertIsNone(house.forget(1))
        self.assertEqual(house.told, (((0,), True), ((2,), True)))
        self.assertIsNone(house.forget(1))
        self.assertIsNone(house.forget(0))
        self.assertEqual(house.told, ())
        self.assertTrue(same_kind(house.log[3:], [("forget", 1), ("forget", 1), ("forget", 0)]))

    def test_no_entry(self):
        house = told(3, ((0,), True), ((1,), False))
        before = snapshot(house)
        for at in odd_values() + [2, 3, -1, -2, True, False, "0", None, (0,), [0], {}, 10 ** 30, 40]:
            with self.assertRaises(NoEntry) as caught:
                house.forget(at)
            self.assertIs(caught.exception.at, at)
        with self.assertRaises(NoEntry):
            House(3).forget(0)
        self.assertEqual(snapshot(house), before)

    def test_allow(self):
        house = told(2, ((0,), True), slack=3)
        for slack in list(range(41)) + [7, 7]:
            self.assertIsNone(house.allow(slack))
            self.assertTrue(same_kind((house.slack, house.evidence.wrong), (slack, slack)))
            self.assertEqual(house.told, (((0,), True),))
        self.assertTrue(same_kind(house.log[1:4], [("slack", 0), ("slack", 1), ("slack", 2)]))

    def test_a_slack_somewhat_beyond_is_no_error(self):
        house = told(2, ((0,), True))
        house.allow(41)
        self.assertEqual((house.slack, house.evidence.wrong, house.told), (41, 41, (((0,), True),)))
        self.assertEqual(house.ask((0,)), "open")

    def test_deeds_that_change_nothing_count(self):
        house = House(2, 5)
        house.allow(5)
        house.allow(5)
        self.assertEqual(house.log, [("slack", 5), ("slack", 5)])
        house.undo()
        self.assertEqual((house.log, house.slack), ([("slack", 5)], 5))

    def test_forty_sightings(self):
        house = told(3, *drawn(342, 3, 40))
        with self.assertRaises(TooMany) as caught:
            house[0,] = True
        self.assertTrue(same_kind(caught.exception.limit, 40))
        for group, truth in (((3,), True), ((0,), 1), (None, None)):
            with self.assertRaises(BadSighting):
                house[group] = truth
        self.assertEqual(len(house), 40)
        house.forget(3)
        house[0,] = True
        self.assertEqual(len(house), 40)

    def test_sixty_deeds(self):
        house = told(3, ((0,), True))
        for at in range(59):
            house.allow(at % 7)
        before = snapshot(house)
        self.assertEqual(len(house.log), 60)
        deeds = [("tell", (0,), True), ("forget", 0), ("slack", 3), ("slack", house.slack)]
        for deed in deeds:
            with self.assertRaises(TooMany) as caught:
                do(house, deed)
            self.assertTrue(same_kind(caught.exception.limit, 60))
        with self.assertRaises(BadSighting):
            house[0,] = 1
        for at in (1, -1, None):
            with self.assertRaises(NoEntry):
                house.forget(at)
        self.assertEqual(snapshot(house), before)
        house.undo()
        house.forget(0)
        self.assertEqual((len(house.log), len(house)), (60, 0))

    def test_forty_sightings_ahead_of_sixty_deeds(self):
        house = told(3, *drawn(343, 3, 40))
        for _ in range(20):
            house.allow(1)
        for group, truth, error, field in (((0,), True, TooMany, 40), ((0,), 0, BadSighting, 0)):
            with self.assertRaises(error) as caught:
                house[group] = truth
            self.assertEqual(list(vars(caught.exception).values()), [field])
        with self.assertRaises(TooMany) as caught:
            house.forget(0)
        self.assertTrue(same_kind(caught.exception.limit, 60))
        with self.assertRaises(NoEntry):
            house.forget(40)


class UndoTest(unittest.TestCase):

    def test_over_deeds_of_all_kinds(self):
        house = told(3, ((0,), True), ((0, 1), False), slack=4)
        deeds = [("forget", 0), ("slack", 9), ("tell", (), True), ("slack", 9), ("forget", 1)]
        states = [snapshot(house)]
        for deed in deeds:
            do(house, deed)
            states.append(snapshot(house))
        for state in states[:-1][::-1]:
            self.assertIsNone(house.undo())
            self.assertEqual(snapshot(house), state)
        for state in states[1:]:
            self.assertIsNone(house.redo())
            self.assertEqual(snapshot(house), state)
        with self.assertRaises(Nothing):
            house.redo()

    def test_nothing(self):
        house = House(2, 1)
        before = snapshot(house)
        for _ in range(2):
            for deed in (house.undo, house.redo):
                with self.assertRaises(Nothing):
                    deed()
        self.assertEqual(snapshot(house), before)
        house.allow(3)
        with self.assertRaises(Nothing):
            house.redo()
        house.undo()
        with self.assertRaises(Nothing):
            house.undo()
        self.assertEqual(snapshot(house), before)
        house.redo()
        self.assertEqual((house.slack, house.log), (3, [("slack", 3)]))

    def test_a_new_deed_lets_go_what_was_taken_back(self):
        for deed in (("tell", (1,), True), ("forget", 0), ("slack", 1), ("slack", 0)):
            house = told(2, ((0,), True), ((1,), False), ((), True))
            house.undo()
            house.undo()
            do(house, deed)
            with self.assertRaises(Nothing):
                house.redo()
            self.assertEqual(house.log, [("tell", (0,), True), deed])
            house.undo()
            house.redo()
            self.assertEqual(house.log, [("tell", (0,), True), deed])

    def test_a_deed_that_raises_lets_go_nothing(self):
        house = told(2, ((0,), True), ((1,), False))
        house.undo()
        before = whole(house)
        for deed, error in (
            (lambda: do(house, ("tell", (2,), True)), BadSighting), (lambda: do(house, ("forget", 1)), NoEntry),
            (lambda: house.until(2), NoEntry),
        ):
            with self.assertRaises(error):
                deed()
            self.assertEqual(whole(house), before)
        house.redo()
        self.assertEqual(len(house), 2)

    def test_up_to_sixty_deeds(self):
        house = House(2)
        for at in range(60):
            house.allow(at % 41)
        state = snapshot(house)
        for _ in range(60):
            house.undo()
        self.assertEqual((house.log, house.slack), ([], 0))
        for _ in range(60):
            house.redo()
        self.assertEqual(snapshot(house), state)
        with self.assertRaises(Nothing):
            house.redo()
        with self.assertRaises(TooMany):
            house.allow(1)

    def test_the_log_is_a_new_list(self):
        house = told(2, ((0,), True))
        found = house.log
        found.append(("slack", 1))
        found[0] = None
        self.assertEqual(house.log, [("tell", (0,), True)])
        self.assertIsNot(house.log, house.log)


class AskTest(unittest.TestCase):

    def test_each_word(self):
        house = told(2, ((0,), True))
        self.assertEqual([house.ask(group) for group in ((0,), (1,), (0, 1))], ["yes", "open", "open"])
        house[0, 1] = False
        self.assertEqual([house.ask(group) for group in ((0,), (1,), (0, 1))], ["yes", "open", "no"])
        house[0,] = False
        self.assertEqual([house.ask(group) for group in ((0,), (1,), (0, 1))], ["none"] * 3)
        house.allow(1)
        self.assertEqual(house.ask((0,)), "open")

    def test_as_sure_tells(self):
        chance = Random(344)
        words = {}
        for _ in range(40):
            size = chance.randint(1, 4)
            house = told(size, *drawn(chance.random(), size, chance.randint(0, 6)), slack=chance.choice([0, 0, 1, 2]))
            for group in all_groups(size)[1:]:
                before = snapshot(house)
                word = house.ask(group)
                self.assertTrue(same_kind(word, sure(house.evidence, group)[0]))
                self.assertEqual(snapshot(house), before)
                words[word] = True
        self.assertEqual(sorted(words), ["no", "none", "open", "yes"])

    def test_too_many(self):
        house = told(6, *drawn(2, 6, 40), slack=9)
        with self.assertRaises(TooMany) as caught:
            house.ask((4,))
        self.assertTrue(same_kind(caught.exception.limit, 400))
        self.assertEqual(len(house), 40)


class UntilTest(unittest.TestCase):

    def setUp(self):
        self.house = told(3, ((0,), True), slack=2)
        self.deeds = [("slack", 5), ("tell", (0, 2), False), ("forget", 0), ("slack", 2), ("tell", (), True)]
        self.states = [snapshot(House(3, 2)), snapshot(self.house)]
        for deed in self.deeds:
            do(self.house, deed)
            self.states.append(snapshot(self.house))

    def test_each_count(self):
        for taken_back in range(4):
            before = whole(self.house)
            for count in range(7 - taken_back):
                found = self.house.until(count)
                self.assertIsInstance(found, House)
                self.assertIsNot(found, self.house)
                self.assertEqual(whole(found), [self.states[count]])
            with self.assertRaises(NoEntry) as caught:
                self.house.until(7 - taken_back)
            self.assertTrue(same_kind(caught.exception.at, 7 - taken_back))
            self.assertEqual(whole(self.house), before)
            self.house.undo()

    def test_odd_counts(self):
        for count in odd_values() + [-1, 7, 60, True, False, "1", None, (1,), [], 10 ** 30]:
            with self.assertRaises(NoEntry) as caught:
                self.house.until(count)
            self.assertIs(caught.exception.at, count)
        with self.assertRaises(NoEntry):
            House(1).until(1)
        self.assertEqual(snapshot(House(1).until(0)), snapshot(House(1)))

    def test_changed_afterwards_in_both_directions(self):
        for make in (lambda: self.house.until(3), lambda: self.house.branch()):
            found = make()
            mine, theirs = whole(self.house), whole(found)
            found[1,] = True
            found.undo()
            found.undo()
            found.allow(30)
            self.assertEqual(whole(self.house), mine)
            found = make()
            self.house[1,] = True
            self.house.undo()
            self.house.undo()
            self.house.allow(30)
            self.assertEqual(whole(found), theirs)

    def test_undo_goes_to_the_beginning(self):
        found = self.house.until(3)
        for count in (2, 1, 0):
            found.undo()
            self.assertEqual(snapshot(found), self.states[count])
        with self.assertRaises(Nothing):
            found.undo()
        self.assertEqual(found.slack, 2)

    def test_branch_with_deeds_taken_back(self):
        for count in range(7):
            found = self.house.branch()
            self.assertIsInstance(found, House)
            self.assertIsNot(found, self.house)
            self.assertEqual(snapshot(found), self.states[6 - count])
            for state in self.states[7 - count:]:
                found.redo()
                self.assertEqual(snapshot(found), state)
            with self.assertRaises(Nothing):
                found.redo()
            found = self.house.branch()
            for state in self.states[:6 - count][::-1]:
                found.undo()
                self.assertEqual(snapshot(found), state)
            if count < 6:
                self.house.undo()

    def test_sixty_deeds(self):
        house = House(1)
        for _ in range(60):
            house.allow(1)
        for found in (house.until(60), house.branch()):
            with self.assertRaises(TooMany):
                found.allow(2)
        house.until(59).allow(2)


class Odd(Exception):
    """An error that the package does not know."""


class DuringTest(unittest.TestCase):

    def setUp(self):
        self.house = told(2, ((0,), True), ((1,), False), ((), True), slack=1)
        self.house.undo()
        self.before = whole(self.house)
        self.assertEqual(len(self.before), 2)

    def test_it_is_the_house_itself(self):
        self.assertIs(self.house.during(lambda house: house), self.house)
        self.assertEqual(self.house.during(lambda house: (len(house), house.slack)), (2, 1))
        self.assertIsNone(self.house.during(lambda house: house.allow(4)))
        self.assertEqual(whole(self.house), self.before)

    def test_deeds_undo_and_redo(self):
        def deed(house):
            house.redo()
            house.undo()
            house.undo()
            house[0, 1] = False
            house.allow(7)
            house.forget(0)
            house.undo()
            return snapshot(house)

        found = self.house.during(deed)
        self.assertEqual(found[:4], (2, 7, (((0,), True), ((0, 1), False)), [
            ("tell", (0,), True), ("tell", (0, 1), False), ("slack", 7),
        ]))
        self.assertEqual(whole(self.house), self.before)
        self.house.redo()
        self.assertEqual(len(self.house), 3)

    def test_errors_are_passed_on(self):
        for error in (Odd("odd"), KeyError(3), CrewError("own"), TooMany(7)):
            def deed(house):
                house.allow(9)
                house.forget(0)
                raise error

            with self.assertRaises(error.__class__) as caught:
                self.house.during(deed)
            self.assertIs(caught.exception, error)
            self.assertEqual(whole(self.house), self.before)

    def test_errors_of_the_house(self):
        with self.assertRaises(NoEntry):
            self.house.during(lambda house: [house.forget(0) for _ in range(3)])
        with self.assertRaises(Nothing):
            self.house.during(lambda house: [house.undo() for _ in range(3)])
        with self.assertRaises(TooMany):
            self.house.during(lambda house: [house.allow(3) for _ in range(60)])
        self.assertEqual(whole(self.house), self.before)

    def test_one_within_another(self):
        def inner(house):
            house.undo()
            house.allow(0)
            return house.ask((0,))

        def outer(house):
            house[0,] = False
            mine = whole(house)
            found = house.during(inner)
            self.assertEqual(whole(house), mine)
            with self.assertRaises(Odd):
                house.during(fail)
            self.assertEqual(whole(house), mine)
            return found

        def fail(house):
            house.forget(0)
            raise Odd()

        self.assertEqual(self.house.during(outer), "yes")
        self.assertEqual(whole(self.house), self.before)

    def test_branches_keep_what_is_done(self):
        branch = self.house.during(lambda house: (house.allow(8), house.branch())[1])
        self.assertEqual((branch.slack, self.house.slack), (8, 1))
        self.assertEqual(branch.log[-1], ("slack", 8))
        self.assertEqual(whole(self.house), self.before)


class EvidenceTest(unittest.TestCase):

    def test_behind_every_deed(self):
        house = House(2, 1)
        for deed in (("tell", (0, 1), True), ("slack", 0), ("tell", (0,), False), ("forget", 0)):
            do(house, deed)
            self.assertIsInstance(house.evidence, Evidence)
            self.assertEqual(house.evidence, Evidence(2, house.told, house.slack))

    def test_what_was_read_before_stays(self):
        house = told(2, ((0,), True))
        evidence, rows = house.evidence, house.told
        house.allow(3)
        house[0,] = False
        self.assertEqual(evidence, Evidence(2, [((0,), True)]))
        self.assertEqual(rows, (((0,), True),))


if __name__ == "__main__":
    unittest.main()
