"""All tight and all least explanations of a family, and the shortest ways between alike job lists."""

from crewlists.changes import is_least
from crewlists.errors import NotAlike, TooMany
from crewlists.family import Family
from crewlists.greatest import first_apart, first_lost, jobs_above
from crewlists.groups import apart, in_order
from crewlists.jobs import Jobs
from crewlists.reasons import lists_of


def explains(family, jobs):
    """Return whether the Jobs explains the family."""
    return Family.of(jobs) == family


def all_tight(family, *, most=60):
    """Return the list of all tight explanations, each with its jobs in order."""
    answer = lists_of(family)
    found = [answer[1]] if answer[0] == "jobs" else []
    tried = {}
    done = 0
    while done < len(found):
        by_one = _struck_once(found[done])
        for fewer in by_one:
            if fewer.jobs not in tried:
                tried[fewer.jobs] = True
                if first_lost(family.crews, fewer) is None:
                    found.append(fewer)
        if len(found) > most:
            raise TooMany(most)
        done += 1
    return [Jobs(family.size, rows) for rows in sorted([jobs.jobs for jobs in found])]


def _struck_once(jobs):
    """Return the list of the job lists, their jobs in order, that have one person less in one job."""
    found = []
    for at, job in enumerate(jobs.jobs):
        for person in job:
            found.append(Jobs(jobs.size, in_order(jobs.struck(at, person).jobs)))
    return found


def all_least(family, *, most=60):
    """Return the list of the tight explanations from which nobody may be struck."""
    return [jobs for jobs in all_tight(family, most=most) if is_least(jobs)]


def steps(one, other):
    """Return a shortest list of alike Jobs, each by one person unlike the one before, from one to other."""
    group = first_apart(one, other)
    if group is not None:
        raise NotAlike(group)
    goals = _partners(one, other)
    found = [one]
    # People are put in first: so each list lies between one of the two and the greatest list.
    for at, goal in enumerate(goals):
        for person in apart(goal, one.jobs[at]):
            found.append(found[-1].put(at, person))
    for at, goal in enumerate(goals):
        for person in apart(one.jobs[at], goal):
            found.append(found[-1].struck(at, person))
    return found


def _partners(one, other):
    """Return the jobs of other, each at the index of its partner in one, that are changed to by fewest people."""
    above, goals_above = jobs_above(one), jobs_above(other)
    # For each set of jobs of other, as a number with a bit for each: the cheapest way to pair them so far.
    ways = {0: (0, [])}
    for at, job in enumerate(one.jobs):
        longer = {}
        for used, (cost, goals) in ways.items():
            for to, goal in enumerate(other.jobs):
                paired = used | 1 << to
                total = cost + len(apart(job, goal)) + len(apart(goal, job))
                fits = paired != used and above[at] == goals_above[to]
                if fits and (paired not in longer or total < longer[paired][0]):
                    longer[paired] = (total, goals + [goal])
        ways = longer
    return ways[(1 << len(other.jobs)) - 1][1]
