"""What several tests need: odd values, small job lists, and slow counts made without the package."""

from itertools import combinations, permutations
from random import Random

from crewlists.errors import CrewError, Nothing
from crewlists.jobs import Jobs


def nested(depth):
    """Return a tuple within a tuple, and so on."""
    thing = (0,)
    for _ in range(depth - 1):
        thing = (thing,)
    return thing


def odd_values():
    """Return values of every kind; few of them fit anywhere."""
    return [
        None, True, False, -1, -10 ** 40, 8, 10 ** 40, "", "ab", "0", b"", b"\x00\x01",
        [], [0], [0, 1], [()], {}, {0: 1}, {(): ()}, set(), {0, 1}, frozenset({0}),
        (True,), (False,), (False, True), (0, True), (False, 1), (0, 0), (1, 0), (-1,), (-1, 0), (0, 8), (10 ** 40,),
        ("a",), ("0",), (None,), ([],), ({},), (set(),), ((),), ((0,),), ((0, 1),), (b"a",), ((True,),),
        nested(20), [nested(18)], tuple(range(5000)), "x" * 5000, range(3), len, Jobs, ValueError,
        Jobs(0, []), Jobs(2, [(0, 1)]), (Jobs(1, [(0,)]),), CrewError("odd"), Nothing(), object(),
    ]


def same_kind(one, other):
    """Return whether two results are equal and of the same kinds all through."""
    if one.__class__ is not other.__class__:
        return False
    if isinstance(one, (list, tuple)):
        return len(one) == len(other) and all(same_kind(a, b) for a, b in zip(one, other))
    return one == other


def all_groups(size):
    """Return all groups of a size in order."""
    return [group for many in range(size + 1) for group in combinations(range(size), many)]


def parts_of(group):
    """Return all parts of a group in order."""
    return [part for many in range(len(group) + 1) for part in combinations(group, many)]


def union(*rows):
    """Return the group of all who are in one of some groups."""
    return tuple(sorted(set().union(*rows)))


def minus(one, other):
    """Return the group of all who are in one and not in other."""
    return tuple(sorted(set(one) - set(other)))


def slow_deals(jobs, group):
    """Return all deals in order, by going through all tuples of different indexes."""
    return [
        dealt for dealt in permutations(range(len(jobs.jobs)), len(group))
        if all(person in jobs.jobs[at] for person, at in zip(group, dealt))
    ]


def slow_placeable(jobs):
    """Return all placeable groups in order."""
    return [group for group in all_groups(jobs.size) if slow_deals(jobs, group)]


def slow_open(jobs, group):
    """Return the indexes of the jobs that are open to the group."""
    return tuple(at for at, job in enumerate(jobs.jobs) if set(job) & set(group))


def slow_short(jobs, group):
    """Return the short part of a group, straight from its definition."""
    lacks = {part: len(part) - len(slow_open(jobs, part)) for part in parts_of(group)}
    worst = [part for part in lacks if lacks[part] == max(lacks.values())]
    inner = [part for part in worst if all(set(part) <= set(other) for other in worst)]
    assert len(inner) == 1
    return inner[0]


def slow_strength(jobs, group):
    """Return the length of the longest part of a group that has a deal."""
    return max(len(part) for part in parts_of(group) if slow_deals(jobs, part))


def job_lists(size, many):
    """Return all Jobs of a size with many jobs, up to the order of the jobs."""
    found = [[]]
    rows = all_groups(size)
    for _ in range(many):
        found = [jobs + [job] for jobs in found for job in rows if not jobs or rows.index(jobs[-1]) <= rows.index(job)]
    return [Jobs(size, jobs) for jobs in found]


def few_lists():
    """Return all Jobs of at most three people and three jobs, up to the order of the jobs."""
    return [jobs for size in range(4) for many in range(4) for jobs in job_lists(size, many)]


def random_lists(seed, count, most=7):
    """Return some Jobs of all sizes and numbers of jobs up to most, the jobs in any order."""
    chance = Random(seed)
    found = []
    for _ in range(count):
        size = chance.randint(0, most)
        likely = chance.choice([1, 2, 3, 5])
        jobs = [
            tuple(person for person in range(size) if chance.randint(0, 5) < likely)
            for _ in range(chance.randint(0, most))
        ]
        found.append(Jobs(size, jobs))
    return found
