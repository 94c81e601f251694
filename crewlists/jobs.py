"""Job lists: for each job, the people who can do it."""

from crewlists.checks import check_jobs
from crewlists.dealing import strength
from crewlists.errors import TooMany, Unlike
from crewlists.groups import apart, others, recalled, renumbered, shifted, together

LIMIT = 7


class Jobs:
    """A job list of a size: at most seven jobs, each the group of the people who can do it."""

    def __init__(self, size, jobs):
        check_jobs(size, jobs, LIMIT, LIMIT)
        self.size = size
        self.jobs = tuple(jobs)

    @staticmethod
    def everyone(size, many):
        """Return the Jobs with many jobs that everyone can do."""
        return Jobs(size, [tuple(range(size))] * many)

    def open_to(self, group):
        """Return the indexes of the jobs that some member of the group can do."""
        return tuple([at for at, job in enumerate(self.jobs) if any([person in group for person in job])])

    def outside(self, at):
        """Return the group of all who cannot do the job."""
        return others(self.size, self.jobs[at])

    def put(self, at, person):
        """Return the Jobs in which the person can do the job, too."""
        return self._with(at, together(self.jobs[at], (person,)))

    def struck(self, at, person):
        """Return the Jobs in which the person cannot do the job."""
        return self._with(at, apart(self.jobs[at], (person,)))

    def _with(self, at, job):
        """Return the Jobs with this job in the place of the one with the index."""
        return Jobs(self.size, self.jobs[:at] + (job,) + self.jobs[at + 1:])

    def picked(self, indexes):
        """Return the Jobs with the jobs with these indexes alone."""
        return Jobs(self.size, [self.jobs[at] for at in indexes])

    def renamed(self, order):
        """Return the Jobs in which person p is called order[p]."""
        return Jobs(self.size, [recalled(job, order) for job in self.jobs])

    def turned(self):
        """Return the list whose people are the jobs, with a job for each person: the jobs they can do."""
        return Jobs(len(self.jobs), [self.open_to((person,)) for person in range(self.size)])

    def hired(self, indexes):
        """Return the Jobs with one more person, who can do just the jobs with these indexes."""
        if self.size == LIMIT:
            raise TooMany(LIMIT)
        newcomer = (self.size,)
        found = [job + newcomer if at in indexes else job for at, job in enumerate(self.jobs)]
        return Jobs(self.size + 1, found)

    def __eq__(self, other):
        return isinstance(other, Jobs) and self.size == other.size and self.jobs == other.jobs

    def __len__(self):
        return len(self.jobs)

    def __iter__(self):
        return iter(self.jobs)

    def __getitem__(self, at):
        return self.jobs[at]

    def __abs__(self):
        return strength(self, tuple(range(self.size)))

    def __add__(self, other):
        if self.size != other.size:
            raise Unlike()
        if len(self.jobs) + len(other.jobs) > LIMIT:
            raise TooMany(LIMIT)
        return Jobs(self.size, self.jobs + other.jobs)

    def __mul__(self, count):
        # Counted first: a thousand times a list is not worth building.
        if len(self.jobs) * count > LIMIT:
            raise TooMany(LIMIT)
        return Jobs(self.size, self.jobs * count)

    def __rmul__(self, count):
        return self * count

    def __or__(self, other):
        if self.size + other.size > LIMIT or len(self.jobs) + len(other.jobs) > LIMIT:
            raise TooMany(LIMIT)
        behind = [shifted(job, self.size) for job in other.jobs]
        return Jobs(self.size + other.size, list(self.jobs) + behind)

    def __sub__(self, group):
        stay = others(self.size, group)
        return Jobs(len(stay), [renumbered(job, stay) for job in self.jobs])
