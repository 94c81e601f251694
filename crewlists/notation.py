"""Texts for groups, job lists, families and evidence, and what they say."""

from crewlists.errors import NoText
from crewlists.evidence import Evidence
from crewlists.family import Family
from crewlists.groups import is_group
from crewlists.jobs import Jobs

LETTERS = "abcdefg"
NOBODY = "-"
SIGNS = {"+": True, "=": False}


def show_group(group):
    """Return the text of a group."""
    if len(group) == 0:
        return NOBODY
    return "".join([LETTERS[person] for person in group])


def show_jobs(jobs):
    """Return the text of a job list."""
    return _shown(str(jobs.size), [show_group(job) for job in jobs.jobs])


def show_family(family):
    """Return the text of a family."""
    return _shown(str(family.size), [show_group(crew) for crew in family.crews])


def show_evidence(evidence):
    """Return the text of evidence."""
    words = [("+" if truth else "=") + show_group(group) for group, truth in evidence.sightings]
    return _shown(f"{evidence.size} {evidence.wrong}", words)


def _shown(head, words):
    """Return the text with a head and, behind a colon, a blank and a word each."""
    return " ".join([head + ":"] + words)


def read_group(text):
    """Return the group that a text says."""
    group = as_group(text)
    if group is None:
        raise NoText(text)
    return group


def read_jobs(text):
    """Return the Jobs that a text says."""
    numbers, words = _parts(text, 1)
    return Jobs(numbers[0], _read_words(text, words))


def read_family(text):
    """Return the Family that a text says."""
    numbers, words = _parts(text, 1)
    return Family(numbers[0], _read_words(text, words))


def read_evidence(text):
    """Return the Evidence that a text says."""
    numbers, words = _parts(text, 2)
    for word in words:
        if word[:1] not in SIGNS:
            raise NoText(text)
    found = _read_words(text, [word[1:] for word in words])
    truths = [SIGNS[word[0]] for word in words]
    return Evidence(numbers[0], list(zip(found, truths)), numbers[1])


def _parts(text, many):
    """Return the lists of the numbers in front of the colon, many of them, and of the words behind it."""
    head, colon, tail = text.partition(":")
    numbers = [as_number(word) for word in head.split(" ")]
    if colon == "" or len(numbers) != many or None in numbers or tail[:1] not in ("", " "):
        raise NoText(text)
    return numbers, tail.split(" ")[1:]


def _read_words(text, words):
    """Return the list of the groups that the words of a text say."""
    found = [as_group(word) for word in words]
    if None in found:
        raise NoText(text)
    return found


def as_number(word):
    """Return the number that a word says, None if it says none."""
    if len(word) not in (1, 2) or not all([letter in "0123456789" for letter in word]):
        return None
    number = int(word)
    if str(number) != word:
        return None
    return number


def as_group(word):
    """Return the group that a word says, None if it says none."""
    if word == NOBODY:
        return ()
    group = tuple([LETTERS.find(letter) for letter in word])
    if len(group) == 0 or not is_group(len(LETTERS), group):
        return None
    return group
