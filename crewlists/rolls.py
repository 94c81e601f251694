"""Rolls: the job lists of larger houses, whose groups are too many to be gone through."""

from crewlists.checks import check_jobs
from crewlists.errors import NotPlaceable, TooMany, Unlike
from crewlists.groups import apart, in_order, others

MOST_PEOPLE = 24
MOST_JOBS = 12
MOST_PARTED = 12


class Roll:
    """A job list of a size up to 24: at most twelve jobs, each the group of the people who can do it."""

    def __init__(self, size, jobs):
        check_jobs(size, jobs, MOST_PEOPLE, MOST_JOBS)
        self.size = size
        self.jobs = tuple(jobs)

    @classmethod
    def of(cls, jobs):
        """Return the Roll with the size and the jobs of a Jobs."""
        return cls(jobs.size, jobs.jobs)

    def strength(self, group):
        """Return the strength of the group."""
        return len(_longest_deal(self.jobs, group))

    def short_part(self, group):
        """Return the part of the group whose shortage is greatest, and that is in all such parts."""
        return _short_part(self.jobs, group)

    def deal(self, group):
        """Return a deal for the group."""
        doing = _longest_deal(self.jobs, group)
        if len(doing) < len(group):
            raise NotPlaceable(group, self.short_part(group))
        return tuple([doing[person] for person in group])

    def greatest(self):
        """Return the greatest tight job list that is alike to the roll, its jobs in order."""
        # The jobs that one crew does are enough, and just as many as the full strength.
        crew_jobs = _longest_deal(self.jobs, others(self.size, ()))
        tight = [self.jobs[at] for at in crew_jobs.values()]
        found = [others(self.size, _short_part(tight, others(self.size, job))) for job in tight]
        return Roll(self.size, in_order(found))

    def alike(self, other):
        """Return whether the same groups are placeable in the roll and in other."""
        if self.size != other.size:
            raise Unlike()
        return self.greatest() == other.greatest()

    def parting(self, other):
        """Return a group that is placeable in just one of two rolls, and no other part of it; None if alike."""
        if self.size != other.size:
            raise Unlike()
        if self.size > MOST_PARTED:
            raise TooMany(MOST_PARTED)
        if self.alike(other):
            return None
        left = others(self.size, ())
        for person in left[::-1]:
            fewer = apart(left, (person,))
            if not self._kept(fewer).alike(other._kept(fewer)):
                left = fewer
        return left

    def _kept(self, group):
        """Return the roll in which only the members of the group can do their jobs."""
        gone = others(self.size, group)
        return Roll(self.size, [apart(job, gone) for job in self.jobs])

    def __eq__(self, other):
        return isinstance(other, Roll) and self.size == other.size and self.jobs == other.jobs

    def __len__(self):
        return len(self.jobs)


def _longest_deal(jobs, group):
    """Return the dict of the members who work in a longest placeable part of the group, and their jobs."""
    doing = {}
    for person in group:
        movers = _movers(jobs, doing, [person])
        taken = list(doing.values())
        vacant = [at for at in movers if at not in taken]
        # Each on the way to a vacant job takes the job that the one before leaves.
        to = vacant[0] if vacant else None
        while to is not None:
            mover = movers[to]
            left = doing.get(mover)
            doing[mover] = to
            to = left
    return doing


def _movers(jobs, doing, people):
    """Return the dict of the jobs that people can get if others move on, and who would take each."""
    holders = {at: person for person, at in doing.items()}
    movers = {}
    waiting = list(people)
    while waiting:
        person = waiting.pop()
        for at, job in enumerate(jobs):
            if person in job and at not in movers:
                movers[at] = person
                if at in holders:
                    waiting.append(holders[at])
    return movers


def _short_part(jobs, group):
    """Return the short part of a group: all who can be the ones without a job in a longest deal."""
    doing = _longest_deal(jobs, group)
    movers = _movers(jobs, doing, [person for person in group if person not in doing])
    return tuple([person for person in group if person not in doing or doing[person] in movers])
