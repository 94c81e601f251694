"""How few jobs a person can do, and whether two people share a job."""

from crewlists.greatest import first_lost
from crewlists.groups import in_order, others, parts
from crewlists.jobs import Jobs
from crewlists.reasons import explained


def fewest_jobs(family, person):
    """Return the fewest indexes such that the person can be struck from all other jobs of the greatest list."""
    jobs = explained(family)
    many = len(jobs.jobs)
    for indexes in parts(tuple(range(many))):
        left = jobs
        for at in others(many, indexes):
            left = left.struck(at, person)
        if first_lost(family.crews, left) is None:
            return indexes


def share(family, one, other):
    """Return whether "never", "always" or in some tight explanations, "open", there is a job that both can do."""
    jobs = explained(family)
    common_jobs = [at for at, job in enumerate(jobs.jobs) if one in job and other in job]
    if not common_jobs:
        return ("never",)
    rows = []
    for choice in _choices(min(one, other), max(one, other), len(common_jobs)):
        left = jobs
        for at, person in zip(common_jobs, choice):
            left = left.struck(at, person)
        crew = first_lost(family.crews, left)
        # If some tight explanation has no job of both, then one that is made like this, between it and jobs.
        if crew is None:
            return "open", Jobs(family.size, in_order(left.jobs))
        rows.append((choice, crew))
    return "always", rows


def _choices(one, other, many):
    """Return the list of all tuples of many people, each one or other, as Python orders them if one is less."""
    found = [()]
    for _ in range(many):
        found = [choice + (person,) for choice in found for person in (one, other)]
    return found
