"""Moves people between jobs: lets one more person in, or fills wanted jobs."""

from crewlists.dealing import deal, deals, short_part
from crewlists.errors import NotFilled, NotPlaceable
from crewlists.groups import together


def admit(jobs, group, dealt, person):
    """Return a deal for the group and the person in which the fewest members do another job than in dealt."""
    larger = together(group, (person,))
    short = short_part(jobs, larger)
    if short:
        raise NotPlaceable(larger, short)
    before = dict(zip(group, dealt))
    best, fewest = (), len(larger)
    for found in deals(jobs, larger):
        moved = _moved(before, larger, found)
        if moved < fewest:
            best, fewest = found, moved
    return best


def _moved(before, group, dealt):
    """Return how many members of the group had a job before and have another one in dealt."""
    return len([member for member, at in zip(group, dealt) if member in before and before[member] != at])


def both(jobs, group, wanted):
    """Return pairs (person, job) in which the whole group works and all wanted jobs are filled."""
    doing = dict(zip(group, deal(jobs, group)))
    turned = jobs.turned()
    short = short_part(turned, wanted)
    if short:
        raise NotFilled(wanted, short)
    takers = dict(zip(wanted, deal(turned, wanted)))
    for job in wanted:
        vacant = job
        # Who takes a wanted job may leave one that is wanted, too; nobody ever stops working.
        while vacant in takers and vacant not in list(doing.values()):
            taker = takers[vacant]
            left = doing.get(taker)
            doing[taker] = vacant
            vacant = left
    return sorted(doing.items())
