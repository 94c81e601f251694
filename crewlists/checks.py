"""What the constructors ask of their arguments, which may be any values."""

from crewlists.errors import NoJob, Wrong
from crewlists.groups import is_group, is_integer


def is_count(thing, limit):
    """Return whether thing is an integer from 0 to limit."""
    return is_integer(thing) and 0 <= thing <= limit


def is_row(thing, limit):
    """Return whether thing is a list or tuple of at most limit items."""
    return isinstance(thing, (list, tuple)) and len(thing) <= limit


def check_jobs(size, jobs, most_people, most_jobs):
    """Raise the first error of what should be the size and the jobs of a job list, if there is one."""
    if not is_count(size, most_people):
        raise Wrong(0)
    if not is_row(jobs, most_jobs):
        raise Wrong(1)
    for at, job in enumerate(jobs):
        if not is_group(size, job):
            raise NoJob(at)


def is_tree(thing, word):
    """Return whether thing, any value, is a list of rows in which each row but the first is named once, ahead of it.

    A row is a tuple that begins with a string. Those with the word name two rows, by their last two items of four.
    """
    if not isinstance(thing, list) or len(thing) == 0:
        return False
    named = []
    for at, row in enumerate(thing):
        if not isinstance(row, tuple) or len(row) == 0 or not isinstance(row[0], str):
            return False
        if row[0] == word:
            if len(row) != 4 or not all([is_integer(to) and to > at for to in row[2:]]):
                return False
            named.extend(row[2:])
    return sorted(named) == list(range(1, len(thing)))


def is_crews(family, thing):
    """Return whether thing, any value, is the tuple of the crews of the family."""
    if not isinstance(thing, tuple) or not all([is_group(family.size, crew) for crew in thing]):
        return False
    return thing == family.crews
