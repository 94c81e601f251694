"""Exchanges the members of crews."""

from crewlists.dealing import deal
from crewlists.family import newcomers
from crewlists.groups import apart, together


def ins(family, crew, person):
    """Return all who make a crew if put in the place of a member."""
    return tuple(newcomers(family.size, family.crews, crew, person))


def outs(family, crew, newcomer):
    """Return all members in whose place the newcomer makes a crew."""
    return tuple([person for person in crew if swapped(crew, person, newcomer) in family.crews])


def swapped(crew, person, newcomer):
    """Return the crew with the newcomer in the place of a member."""
    return together(apart(crew, (person,)), (newcomer,))


def both_ways(family, one, other, person):
    """Return all of other who make a crew of both if exchanged with the person, who is in one alone."""
    found = [newcomer for newcomer in ins(family, one, person) if newcomer in other]
    return tuple([newcomer for newcomer in found if swapped(other, newcomer, person) in family.crews])


def pairing(family, one, other):
    """Return pairs (a, b) for all a who are in one alone; each b, in other alone, makes a crew in the place of a."""
    leaving = apart(one, other)
    # All ways to choose different newcomers for those gone through so far; some way goes on to the end.
    chosen = [()]
    for person in leaving:
        fitting = [newcomer for newcomer in ins(family, one, person) if newcomer in other]
        chosen = [taken + (newcomer,) for taken in chosen for newcomer in fitting if newcomer not in taken]
    return list(zip(leaving, chosen[0]))


def at_once(jobs, one, other):
    """Return such pairs of two crews of the Jobs that any set of them may be exchanged at once."""
    # The jobs of one crew are enough for all crews, and in these just enough: each is done in both deals.
    tight = jobs.picked(tuple(sorted(deal(jobs, one))))
    doing = dict(zip(one, deal(tight, one)))
    takers = {at: person for person, at in zip(other, deal(tight, other))}
    pairs = []
    for person in apart(one, other):
        # Whoever takes over the job and is in both crews leaves their own job to the next one.
        newcomer = takers[doing[person]]
        while newcomer in one:
            newcomer = takers[doing[newcomer]]
        pairs.append((person, newcomer))
    return pairs


def path(family, one, other):
    """Return crews from one to other, each but the first by one exchange, as few as possible."""
    found = [one]
    for person in apart(one, other):
        fitting = [newcomer for newcomer in ins(family, found[-1], person) if newcomer in other]
        found.append(swapped(found[-1], person, fitting[0]))
    return found
