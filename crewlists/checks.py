"""What the constructors ask of their arguments, which may be any values."""

from crewlists.errors import NoJob, Wrong
from crewlists.groups import is_group, is_integer


def is_count(thing, limit):
    """Return whether thing is an integer from 0 to limit."""
    return is_integer(thing) and 0 <= thing <= limit


def is_row(thing, limit):
    """Return whether thing is a list or tuple of at most limit items."""
    return isinstance(thing, (list, tuple)) and len(thing) <= limit


def check_jobs(size, jobs, most_people, most_jobs):
    """Raise the first error of what should be the size and the jobs of a job list, if there is one."""
    if not is_count(size, most_people):
        raise Wrong(0)
    if not is_row(jobs, most_jobs):
        raise Wrong(1)
    for at, job in enumerate(jobs):
        if not is_group(size, job):
            raise NoJob(at)
