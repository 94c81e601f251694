"""Deals people to jobs, or finds the part of a group that is too large for its jobs."""

from crewlists.errors import NotPlaceable
from crewlists.groups import groups, is_integer, parts


def short_part(jobs, group):
    """Return the part of the group whose shortage is greatest, and that is in all such parts."""
    short, most = (), 0
    for part in parts(group):
        shortage = _shortage(jobs, part)
        # The parts come by length, so the one that is in all others of its shortage comes first.
        if shortage > most:
            short, most = part, shortage
    return short


def _shortage(jobs, group):
    """Return the number of members less the number of the jobs that are open to the group."""
    return len(group) - len(jobs.open_to(group))


def strength(jobs, group):
    """Return the strength of the group."""
    return len(group) - _shortage(jobs, short_part(jobs, group))


def deal(jobs, group):
    """Return the first deal for the group as Python orders tuples."""
    short = short_part(jobs, group)
    if short:
        raise NotPlaceable(group, short)
    for dealt in deals(jobs, group):
        return dealt


def deals(jobs, group):
    """Yield all deals for the group as Python orders tuples."""
    rows = jobs.jobs
    yield from _deals_from(rows, group, ())


def _deals_from(rows, group, begun):
    """Yield all deals of the jobs in rows that give the first members of the group those in begun."""
    if len(begun) == len(group):
        yield begun
        return
    person = group[len(begun)]
    for at, job in enumerate(rows):
        if person in job and at not in begun:
            longer = begun + (at,)
            yield from _deals_from(rows, group, longer)


def is_deal(jobs, group, thing):
    """Return whether thing, any value, is a deal for the group."""
    if not isinstance(thing, tuple) or len(thing) != len(group):
        return False
    for at in thing:
        if not is_integer(at) or at < 0 or at >= len(jobs.jobs):
            return False
    if len(set(thing)) != len(thing):
        return False
    return all([person in jobs.jobs[at] for person, at in zip(group, thing)])


def placeable(jobs):
    """Return the list of all placeable groups, in order."""
    # A number stands for a group here, with a bit for each member: this is many times faster.
    marked = {0: True}
    for job in jobs.jobs:
        for bits in list(marked):
            for person in job:
                marked[bits | 1 << person] = True
    return [group for group in groups(jobs.size) if _bits(group) in marked]


def _bits(group):
    """Return the number that has a bit for each member of the group."""
    return sum([1 << person for person in group])
