"""Which jobs of a job list are enough, and who does a job alone."""

from crewlists.family import Family
from crewlists.groups import others
from crewlists.reasons import explained
from crewlists.structure import needed


def enough(jobs, indexes):
    """Return whether the jobs with these indexes alone are alike to all jobs."""
    # One crew that can still work is enough to keep all groups.
    return abs(jobs.picked(indexes)) == abs(jobs)


def least_enough(jobs):
    """Return the list of the tuples of indexes that are enough and from which none can be left out."""
    return list(Family.of(jobs.turned()).crews)


def spare(jobs):
    """Return the indexes of the jobs each of which can be left out alone."""
    many = len(jobs.jobs)
    return tuple([at for at in range(many) if enough(jobs, others(many, (at,)))])


def alone(family, person):
    """Return whether the person has a job alone "always", "never", or in some tight explanations: "open"."""
    # Called for its error only: there may be no explanation.
    explained(family)
    people = needed(family)
    if person not in people:
        return "never"
    if len(people) > 1:
        return "open"
    return "always"
