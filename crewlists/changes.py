"""Puts people into jobs and strikes them, all groups staying as they are."""

from crewlists.family import Family
from crewlists.greatest import first_lost, lost
from crewlists.groups import others
from crewlists.reasons import explained


def may_put(jobs, at, person):
    """Return None if the person may be put into the job, otherwise the first clash that becomes placeable."""
    # The first group that is gained is a clash: its other parts come before it, so they are not gained.
    return lost(jobs.put(at, person), jobs)


def may_strike(jobs, at, person):
    """Return None if the person may be struck from the job, otherwise the first crew that is lost."""
    return first_lost(Family.of(jobs).crews, jobs.struck(at, person))


def least(jobs):
    """Return what remains of the jobs when everybody in turn is struck who may be struck."""
    crews = Family.of(jobs).crews
    left = jobs
    for at, job in enumerate(jobs.jobs):
        for person in job:
            fewer = left.struck(at, person)
            if first_lost(crews, fewer) is None:
                left = fewer
    return left


def is_least(jobs):
    """Return whether nobody may be struck."""
    return least(jobs) == jobs


def least_sizes(family):
    """Return how many people a least tight explanation has below each job of the greatest one."""
    sizes = []
    for job in explained(family).jobs:
        knot = others(family.size, job)
        sizes.append(len(job) - family.full + 1 + family.strength(knot))
    return tuple(sizes)
