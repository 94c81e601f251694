"""[92]: lines of words that are done with a house."""

import unittest
from random import Random

from crewlists.cases import settle
from crewlists.desk import Desk
from crewlists.errors import NoCommand, NoEntry, Nothing, TooMany, Wrong
from crewlists.house import House
from crewlists.notation import show_evidence, show_group, show_jobs
from crewlists.sure import trial
from helpers import all_groups, drawn, same_kind


def done(size, *lines):
    """Return a Desk at which lines have been done."""
    desk = Desk(size)
    for line in lines:
        desk.execute(line)
    return desk


def seen(house):
    """Return all that may be seen of a house."""
    return house.size, house.slack, house.told, house.log


class DeskTest(unittest.TestCase):

    def test_a_house_of_its_size(self):
        for size in range(7):
            desk = Desk(size)
            self.assertIsInstance(desk.house, House)
            self.assertIn("house", vars(desk))
            self.assertEqual(seen(desk.house), (size, 0, (), []))
        self.assertIsNot(Desk(3).house, Desk(3).house)

    def test_a_size_beyond(self):
        with self.assertRaises(Wrong):
            Desk(7)


class CommandsTest(unittest.TestCase):

    def test_tells(self):
        desk = Desk(3)
        lines = ["can ab", "cannot c", "can -", "cannot -", "can abc"]
        self.assertEqual([desk.execute(line) for line in lines], ["ok"] * 5)
        rows = [((0, 1), True), ((2,), False), ((), True), ((), False), ((0, 1, 2), True)]
        self.assertTrue(same_kind(desk.house.told, tuple(rows)))
        self.assertEqual(desk.house.log, [("tell",) + row for row in rows])

    def test_every_group(self):
        for size in range(7):
            for group in all_groups(size):
                desk = Desk(size)
                self.assertEqual(desk.execute("cannot " + show_group(group)), "ok")
                self.assertEqual(desk.house.told, ((group, False),))

    def test_deeds(self):
        desk = done(3, "can a", "can b", "cannot c")
        for line in ("forget 1", "slack 7", "slack 40", "slack 0", "undo", "undo", "redo"):
            self.assertEqual(desk.execute(line), "ok")
        self.assertEqual(seen(desk.house)[1:3], (40, (((0,), True), ((2,), False))))
        self.assertTrue(same_kind(desk.house.log[3:], [("forget", 1), ("slack", 7), ("slack", 40)]))

    def test_is(self):
        desk = done(3, "can ab", "cannot c")
        words = [desk.execute("is " + group) for group in ("a", "ab", "c", "ac", "-")]
        self.assertEqual(words, ["yes", "yes", "no", "no", "yes"])
        self.assertEqual([Desk(2).execute("is " + group) for group in ("a", "ab", "-")], ["open", "open", "yes"])
        desk = done(3, "can a", "cannot a")
        self.assertEqual([desk.execute("is a"), desk.execute("is b"), desk.execute("is -")], ["none", "none", "yes"])
        # For nobody, whatever was told.
        self.assertEqual(done(3, "cannot -").execute("is -"), "yes")

    def test_jobs(self):
        self.assertEqual(Desk(0).execute("jobs"), "0:")
        self.assertEqual(Desk(3).execute("jobs"), "3: abc abc abc")
        self.assertEqual(done(2, "cannot ab", "can a").execute("jobs"), "2: ab")
        self.assertEqual(done(2, "cannot a", "cannot b").execute("jobs"), "2:")
        self.assertEqual(done(2, "cannot a", "can ab").execute("jobs"), "none")

    def test_trial(self):
        self.assertEqual(Desk(2).execute("trial"), "a 3 2")
        self.assertEqual(done(2, "can a", "can b").execute("trial"), "ab 1 1")
        for lines in (["can ab"], ["can a", "cannot a"], ["cannot -"]):
            self.assertEqual(done(2, *lines).execute("trial"), "done")
        self.assertEqual(Desk(0).execute("trial"), "done")

    def test_show(self):
        desk = done(3, "slack 1", "can ab", "cannot c", "can -")
        self.assertEqual(desk.execute("show"), "3 1: +ab =c +-")
        self.assertEqual(Desk(0).execute("show"), "0 0:")

    def test_what_is_returned_behind_each_kind_of_deed(self):
        desk = Desk(3)
        rows = [
            ("slack 0", "3 0:", "3: abc abc abc"), ("cannot abc", "3 0: =abc", "3: abc abc"),
            ("can bc", "3 0: =abc +bc", "3: abc abc"), ("cannot ac", "3 0: =abc +bc =ac", "3: b abc"),
            ("can ac", "3 0: =abc +bc =ac +ac", "none"), ("slack 1", "3 1: =abc +bc =ac +ac", None),
            ("undo", "3 0: =abc +bc =ac +ac", "none"), ("redo", "3 1: =abc +bc =ac +ac", None),
            ("slack 0", "3 0: =abc +bc =ac +ac", "none"), ("forget 2", "3 0: =abc +bc +ac", "3: abc abc"),
            ("forget 0", "3 0: +bc +ac", "3: abc abc abc"),
        ]
        for line, shown, jobs in rows:
            self.assertEqual(desk.execute(line), "ok")
            self.assertEqual(desk.execute("show"), shown)
            if jobs is not None:
                self.assertEqual(desk.execute("jobs"), jobs)
            self.assert_as_the_functions_tell(desk)

    def assert_as_the_functions_tell(self, desk):
        """Assert that the lines that change nothing return what the functions tell of the evidence."""
        before = seen(desk.house)
        word, found = settle(desk.house.evidence)
        self.assertEqual(desk.execute("jobs"), show_jobs(found) if word == "jobs" else "none")
        best = trial(desk.house.evidence)
        expected = "done" if best is None else f"{show_group(best[0])} {best[1]} {best[2]}"
        self.assertEqual(desk.execute("trial"), expected)
        self.assertEqual(desk.execute("show"), show_evidence(desk.house.evidence))
        for group in all_groups(desk.house.size)[1:]:
            self.assertEqual(desk.execute("is " + show_group(group)), desk.house.ask(group))
        self.assertEqual(seen(desk.house), before)

    def test_drawn_lines(self):
        chance = Random(361)
        for size in (0, 1, 2, 3, 4):
            for _ in range(3):
                desk, house = Desk(size), House(size)
                for _ in range(14):
                    group = chance.choice(all_groups(size))
                    kind = chance.randrange(6)
                    if kind < 3:
                        line = ("can " if kind else "cannot ") + show_group(group)
                        house[group] = kind > 0
                    elif kind == 3:
                        count = chance.choice([0, 1, 2, 40])
                        line = "slack " + str(count)
                        house.allow(count)
                    elif kind == 4 and len(house):
                        at = chance.randrange(len(house))
                        line = "forget " + str(at)
                        house.forget(at)
                    elif house.log:
                        line = "undo"
                        house.undo()
                    else:
                        continue
                    self.assertEqual(desk.execute(line), "ok")
                    self.assertEqual(seen(desk.house), seen(house))
                self.assert_as_the_functions_tell(desk)


class NoCommandTest(unittest.TestCase):

    def setUp(self):
        self.desk = done(3, "can a", "cannot b", "can c", "undo")
        self.before = seen(self.desk.house)

    def assert_no_command(self, line):
        with self.assertRaises(NoCommand) as caught:
            self.desk.execute(line)
        self.assertIs(caught.exception.line, line)
        self.assertEqual(seen(self.desk.house), self.before)

    def test_lines_that_are_none(self):
        bad = [
            "", " ", "  ", "can", "cannot", "is", "forget", "slack", "Can a", "CAN a", "cann a", "ca a", "can't a", "a",
            "-", "help", "job", "jobs a", "trial a", "show a", "undo 1", "redo 0", "undo -", "jobs -", "show ", " show",
            "show  ", "undo ", " undo", "trial ", " trial", "jobs ", " jobs", "redo ", "a can", "ab", "0", "can:a",
            "can,a", "show show", "undo redo", "is a b", "x" * 400,
        ]
        for line in bad:
            self.assert_no_command(line)

    def test_groups(self):
        for word in ("can", "cannot", "is"):
            for group in ("", "d", "abd", "g", "h", "ba", "aa", "A", "--", "-a", "a-", "0", "1", "abc ", " abc", "a b",
                          "+a", "=a", "(0,)", "()", "abcdefg"):
                self.assert_no_command(word + " " + group)
            self.assert_no_command(word + "  a")
            self.assert_no_command(" " + word + " a")
            self.assert_no_command(word + " a ")
            self.assert_no_command(word + " a b")
            self.assert_no_command(word + "-a")

    def test_every_group_beyond_the_size(self):
        for size in range(7):
            self.desk = Desk(size)
            self.before = seen(self.desk.house)
            for group in all_groups(7):
                if group and group[-1] >= size:
                    for word in ("can", "cannot", "is"):
                        self.assert_no_command(word + " " + show_group(group))

    def test_numbers(self):
        for word in ("forget", "slack"):
            bad = ["", "01", "00", "000", "100", "400", "-1", "+1", "1.", "a", "-", "1 1", "1 ", " 1", "0x", "1e"]
            for number in bad:
                self.assert_no_command(word + " " + number)
        for number in range(41, 100):
            self.assert_no_command("slack " + str(number))

    def test_a_number_beyond_the_sightings_is_an_index(self):
        for at in range(2, 100):
            with self.assertRaises(NoEntry) as caught:
                self.desk.execute("forget " + str(at))
            self.assertTrue(same_kind(caught.exception.at, at))
        self.assertEqual(seen(self.desk.house), self.before)

    def test_what_was_taken_back_stays(self):
        self.assert_no_command("can d")
        self.assertEqual(self.desk.execute("redo"), "ok")
        self.assertEqual(len(self.desk.house), 3)


class PassedOnTest(unittest.TestCase):

    def test_nothing(self):
        desk = Desk(3)
        for line in ("undo", "redo"):
            with self.assertRaises(Nothing):
                desk.execute(line)

    def test_too_many_sightings(self):
        desk = done(2, *["can a"] * 40)
        for line in ("can b", "cannot -"):
            with self.assertRaises(TooMany) as caught:
                desk.execute(line)
            self.assertTrue(same_kind(caught.exception.limit, 40))
        with self.assertRaises(NoCommand):
            desk.execute("can c")

    def test_too_many_deeds(self):
        desk = done(2, "can a", *["slack 3"] * 59)
        for line in ("can b", "forget 0", "slack 4", "slack 3"):
            with self.assertRaises(TooMany) as caught:
                desk.execute(line)
            self.assertTrue(same_kind(caught.exception.limit, 60))
        with self.assertRaises(NoEntry):
            desk.execute("forget 1")
        with self.assertRaises(NoCommand):
            desk.execute("slack 41")
        self.assertEqual(desk.execute("undo"), "ok")
        self.assertEqual(desk.execute("forget 0"), "ok")

    def test_too_many_rows(self):
        desk = Desk(6)
        rows = drawn(2, 6, 40)
        for group, truth in rows:
            desk.execute(("can " if truth else "cannot ") + show_group(group))
        desk.execute("slack 9")
        for line in ("is e", "trial"):
            with self.assertRaises(TooMany) as caught:
                desk.execute(line)
            self.assertTrue(same_kind(caught.exception.limit, 400))
        self.assertEqual(desk.execute("is -"), "yes")
        self.assertEqual(desk.house.told, tuple(rows))
        self.assertEqual(desk.execute("show"), show_evidence(desk.house.evidence))

    def test_too_many_rows_for_a_job_list(self):
        desk = Desk(6)
        for group, truth in drawn(4, 6, 40):
            desk.execute(("can " if truth else "cannot ") + show_group(group))
        words = {}
        for slack in range(5, 20):
            desk.execute("slack " + str(slack))
            try:
                word = settle(desk.house.evidence)[0]
                self.assertEqual(desk.execute("jobs") == "none", word == "none")
            except TooMany:
                word = "many"
                with self.assertRaises(TooMany) as caught:
                    desk.execute("jobs")
                self.assertTrue(same_kind(caught.exception.limit, 400))
            words[word] = True
        self.assertEqual(sorted(words), ["jobs", "many", "none"])


if __name__ == "__main__":
    unittest.main()
