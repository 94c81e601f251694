"""The greatest job list that allows the same groups, and the groups that tell two job lists apart."""

from crewlists.dealing import placeable
from crewlists.errors import Unlike
from crewlists.family import Family
from crewlists.groups import in_order, others
from crewlists.jobs import Jobs
from crewlists.reasons import lists_of
from crewlists.structure import needed, round_part


def greatest(jobs, *, many=None):
    """Return the greatest job list alike to jobs with many jobs, by default as many as its full strength."""
    family = Family.of(jobs)
    found = list(lists_of(family)[1].jobs)
    if many is not None:
        found.extend([needed(family)] * (many - family.full))
    return Jobs(jobs.size, in_order(found))


def places(jobs):
    """Return, for each job of a tight job list, the index of a job above it in the greatest list."""
    upper = greatest(jobs).jobs
    found = []
    for above in jobs_above(jobs):
        free = [at for at, job in enumerate(upper) if job == above and at not in found]
        found.append(free[0])
    return tuple(found)


def jobs_above(jobs):
    """Return the list of the jobs of the greatest list that lie above those of a tight job list."""
    family = Family.of(jobs)
    return [others(jobs.size, round_part(family, jobs.outside(at))) for at in range(len(jobs.jobs))]


def lost(one, other):
    """Return the first group that is placeable in one and not in other, None if there is none."""
    if one.size != other.size:
        raise Unlike()
    return first_lost(placeable(one), other)


def first_lost(rows, jobs):
    """Return the first of the groups in rows that is not placeable in jobs, None if all are."""
    kept = {group: True for group in placeable(jobs)}
    for group in rows:
        if group not in kept:
            return group
    return None


def same(one, other):
    """Return ("same", greatest list) for alike job lists, ("apart", group) for others."""
    group = first_apart(one, other)
    if group is None:
        return "same", greatest(one)
    return "apart", group


def first_apart(one, other):
    """Return the first group that is placeable in just one of two job lists, None if they are alike."""
    found = [group for group in (lost(one, other), lost(other, one)) if group is not None]
    if not found:
        return None
    return in_order(found)[0]
