"""[4], [91]: texts."""

import unittest
from random import Random

from crewlists.errors import BadCrew, BadSighting, NoCrew, NoExchange, NoJob, NoText, Uneven, Wrong
from crewlists.evidence import Evidence
from crewlists.family import Family
from crewlists.jobs import Jobs
from crewlists.notation import (
    read_evidence, read_family, read_group, read_jobs, show_evidence, show_family, show_group, show_jobs,
)
from helpers import all_families, all_groups, drawn_evidence, few_lists, large_families, random_lists, same_kind

JOBS = Jobs(4, [(0, 1), (1, 2, 3), (1,)])
READERS = {read_group: ["-", "abc", "g", "abcdefg"]}
READERS[read_jobs] = ["4: ab bcd b", "0:", "7: - - -", "3:", "2: ab - a"]
READERS[read_family] = ["4: abc abd", "0: -", "3: ab ac bc", "7: abcdefg"]
READERS[read_evidence] = ["3 1: +ab =c +-", "0 0:", "6 40: =abcdef", "2 10: +a =a"]


class ShowTest(unittest.TestCase):

    def test_groups(self):
        self.assertEqual([show_group(group) for group in ((), (0,), (6,), (0, 2, 6))], ["-", "a", "g", "acg"])
        self.assertEqual(show_group(tuple(range(7))), "abcdefg")

    def test_job_lists(self):
        self.assertEqual(show_jobs(JOBS), "4: ab bcd b")
        self.assertEqual([show_jobs(Jobs(size, [])) for size in (0, 7)], ["0:", "7:"])
        self.assertEqual(show_jobs(Jobs(7, [(), (6,), ()])), "7: - g -")

    def test_families(self):
        self.assertEqual(show_family(Family.of(JOBS)), "4: abc abd")
        self.assertEqual(show_family(Family(3, [(1, 2), (0, 1), (0, 1)])), "3: ab bc")
        self.assertEqual(show_family(Family(0, [()])), "0: -")

    def test_evidence(self):
        self.assertEqual(show_evidence(Evidence(3, [((0, 1), True), ((2,), False), ((), True)], 1)), "3 1: +ab =c +-")
        self.assertEqual(show_evidence(Evidence(6, [], 40)), "6 40:")
        self.assertEqual(show_evidence(Evidence(0, [((), False), ((), False)])), "0 0: =- =-")


class BackTest(unittest.TestCase):

    def test_groups(self):
        for group in all_groups(7):
            text = show_group(group)
            self.assertEqual(text, "".join("abcdefg"[person] for person in group) or "-")
            self.assertTrue(same_kind(read_group(text), group))

    def test_job_lists(self):
        for jobs in few_lists() + random_lists(351, 60):
            self.assertEqual(read_jobs(show_jobs(jobs)), jobs)
            self.assertIsInstance(read_jobs(show_jobs(jobs)), Jobs)

    def test_families(self):
        for family in [family for size in range(5) for family in all_families(size)] + large_families():
            self.assertEqual(read_family(show_family(family)), family)
            self.assertIsInstance(read_family(show_family(family)), Family)

    def test_evidence(self):
        for evidence in drawn_evidence(352, 80):
            self.assertEqual(read_evidence(show_evidence(evidence)), evidence)
            self.assertIsInstance(read_evidence(show_evidence(evidence)), Evidence)

    def test_texts(self):
        show = {read_group: show_group, read_jobs: show_jobs, read_family: show_family, read_evidence: show_evidence}
        for reader, texts in READERS.items():
            for text in texts:
                self.assertEqual(show[reader](reader(text)), text)

    def test_crews_in_another_order_and_several_times(self):
        for text in ("4: abd abc", "4: abc abd abc", "4: abd abd abc abd"):
            self.assertEqual(read_family(text), Family.of(JOBS))
        self.assertEqual(read_family("1: - -"), Family(1, [()]))

    def test_jobs_stay_in_their_order(self):
        self.assertEqual(read_jobs("3: c - ab c").jobs, ((2,), (), (0, 1), (2,)))


class NoTextTest(unittest.TestCase):

    def assert_no_text(self, reader, text):
        with self.assertRaises(NoText) as caught:
            reader(text)
        self.assertIs(caught.exception.text, text)

    def test_groups(self):
        bad = [
            "", " ", "--", "-a", "a-", "ba", "aa", "abb", "acb", "h", "abh", "A", "aB", "a b", " a", "a ", "0", "1",
            "+a", "=a", "a:", ":", "abcdefgh", "abcdefga", "a,b", "~", "(0, 1)", "z", "é", "a" * 400,
        ]
        for text in bad:
            self.assert_no_text(read_group, text)

    def test_job_lists(self):
        bad = [
            "", " ", ":", "4", "4 ab", "4:ab", "4: ab  bcd", "4:  ab", "4: ab ", " 4: ab", "4 : ab", "4:: ab", "4: ab:",
            "4: ab : b", "04: ab", "00:", "004:", "123: ab", "-4: ab", "+4: ab", "4.: ab", "a: ab", "4: ba", "4: aa",
            "4: h", "4: AB", "4: 0", "4: +ab", "4: =ab", "4: ab,b", "4: --", "4: -a", "4: ", "4:  ", "4 0: ab",
            "4: ab\tb", "4; ab", "4 :", ": ab", ":4", "ab", "4: ab -b", "٤: ab",
        ]
        for reader in (read_jobs, read_family):
            for text in bad:
                self.assert_no_text(reader, text)

    def test_evidence(self):
        bad = [
            "", " ", ":", "3:", "3 1", "3  1: +a", " 3 1: +a", "3 1 : +a", "3 1 0: +a", "3 1:+a", "3 1:  +a",
            "3 1: +a  =b", "3 1: +a ", "3 1: ", "3 1:: +a", "3 1: +a:", "03 1: +a", "3 01: +a", "3 00: +a", "3 100: +a",
            "3 -1: +a", "3 +1: +a", "3, 1: +a", "3 1: a", "3 1: -", "3 1: -a", "3 1: ++a", "3 1: + a", "3 1: +",
            "3 1: =", "3 1: +ba", "3 1: +aa", "3 1: +h", "3 1: +A", "3 1: a+", "3 1: +-a", "3 1: +--", "3 1: #a",
            "3 1: ==",
            "3: 1 +a", "3 1; +a", "x 1: +a", "3 x: +a", "3 1: +a,=b",
        ]
        for text in bad:
            self.assert_no_text(read_evidence, text)

    def test_spoilt_in_one_place(self):
        signs = " -+=:0123456789abcdefgh~ABG,."
        for reader, texts in READERS.items():
            for text in texts:
                for at in range(len(text) + 1):
                    rows = [text[:at] + sign + text[at:] for sign in signs]
                    rows += [text[:at] + sign + text[at + 1:] for sign in signs] + [text[:at] + text[at + 1:]]
                    for other in rows:
                        self.assert_as_the_form_says(reader, other)

    def test_drawn_texts(self):
        chance = Random(353)
        for reader in READERS:
            for _ in range(400):
                text = "".join(chance.choice("  --::++==01234abcdefg") for _ in range(chance.randint(0, 9)))
                self.assert_as_the_form_says(reader, text)

    def assert_as_the_form_says(self, reader, text):
        """Assert that NoText is raised if and only if the text is not of its form."""
        if is_of_the_form(reader, text):
            try:
                reader(text)
            except NoText:
                self.fail(text)
            except (Wrong, NoJob, BadCrew, NoCrew, Uneven, NoExchange, BadSighting):
                pass
        else:
            self.assert_no_text(reader, text)

    def test_the_text_itself(self):
        # Not an equal one: the very object that was passed.
        text = "".join(["4: ab", " "])
        self.assert_no_text(read_jobs, text)
        self.assert_no_text(read_family, text)
        self.assert_no_text(read_evidence, text)
        self.assert_no_text(read_group, text)


def is_of_the_form(reader, text):
    """Return whether a text is of the form that the reader wants, by going through its signs."""
    if reader is read_group:
        return text == "-" or text != "" and in_a_row(text)
    if text.count(":") != 1:
        return False
    head, tail = text.split(":")
    numbers = head.split(" ")
    if len(numbers) != (2 if reader is read_evidence else 1):
        return False
    if not all(number in [str(count) for count in range(100)] for number in numbers):
        return False
    words = tail.split(" ")
    if words[0] != "":
        return False
    for word in words[1:]:
        if reader is read_evidence:
            if word == "" or word[0] not in "+=":
                return False
            word = word[1:]
        if word != "-" and (word == "" or not in_a_row(word)):
            return False
    return True


def in_a_row(word):
    """Return whether a word has different letters a to g in ascending order."""
    return list(word) == sorted(set(word)) and all("a" <= letter <= "g" for letter in word)


class ErrorsOfTheConstructorsTest(unittest.TestCase):

    def assert_error(self, kind, fields, reader, text):
        with self.assertRaises(kind) as caught:
            reader(text)
        self.assertTrue(same_kind(list(vars(caught.exception).values()), fields), text)

    def test_job_lists(self):
        self.assert_error(Wrong, [0], read_jobs, "8: a")
        self.assert_error(Wrong, [0], read_jobs, "10:")
        self.assert_error(Wrong, [0], read_jobs, "99: a")
        self.assert_error(Wrong, [1], read_jobs, "3:" + " a" * 8)
        self.assert_error(Wrong, [1], read_jobs, "3:" + " g" * 198)
        self.assert_error(NoJob, [1], read_jobs, "3: abc ad d")
        self.assert_error(NoJob, [0], read_jobs, "0: a")

    def test_families(self):
        self.assert_error(Wrong, [0], read_family, "8: a")
        self.assert_error(Wrong, [1], read_family, "3:" + " a" * 101)
        self.assert_error(BadCrew, [1], read_family, "3: ab ad")
        self.assert_error(NoCrew, [], read_family, "3:")
        self.assert_error(Uneven, [2], read_family, "3: ab bc a")
        self.assert_error(Uneven, [1], read_family, "3: ab -")
        self.assert_error(NoExchange, [(0, 1), (2, 3), 0], read_family, "4: ab cd")

    def test_evidence(self):
        self.assert_error(Wrong, [0], read_evidence, "7 0:")
        self.assert_error(Wrong, [0], read_evidence, "99 99: +a")
        self.assert_error(Wrong, [1], read_evidence, "3 99:" + " +a" * 41)
        self.assert_error(Wrong, [2], read_evidence, "3 41: +d")
        self.assert_error(BadSighting, [1], read_evidence, "3 40: +c =d =d")
        self.assert_error(BadSighting, [0], read_evidence, "0 0: +a")


class ExampleTest(unittest.TestCase):

    def test_the_example(self):
        self.assertEqual([show_jobs(JOBS), show_family(Family.of(JOBS))], ["4: ab bcd b", "4: abc abd"])
        self.assertTrue(same_kind(
            read_evidence("3 1: +ab =c +-").sightings, (((0, 1), True), ((2,), False), ((), True)),
        ))


if __name__ == "__main__":
    unittest.main()
