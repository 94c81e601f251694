"""The weights of the knots of a family, and what bounds them."""

from crewlists.groups import is_part, parts, together
from crewlists.structure import knots


def weights(family):
    """Return the list of the tuples (knot, weight), the knots in order."""
    found = []
    # The longest first: a weight rests on those of the knots of which its own is a part.
    for knot in knots(family)[::-1]:
        weight = room(family, knot) - sum_above(found, knot)
        found.append((knot, weight))
    return found[::-1]


def sum_above(weighed, group):
    """Return the sum of the weights in weighed, tuples (knot, weight), whose knots contain the group."""
    return sum([weight for knot, weight in weighed if is_part(group, knot)])


def above(family, group):
    """Return the sum of the weights of the knots of which the group is a part."""
    return sum_above(weights(family), group)


def room(family, group):
    """Return the full strength minus the strength of the group."""
    return family.full - family.strength(group)


def round_bound(family, rounds):
    """Return how many jobs are open to each of the round groups, in every explanation."""
    total = 0
    for indexes in parts(tuple(range(len(rounds)))):
        joint = ()
        for at in indexes:
            joint = together(joint, rounds[at])
        # Nobody, the joint group of no indexes, has no strength.
        if len(indexes) % 2 == 1:
            total = total + family.strength(joint)
        else:
            total = total - family.strength(joint)
    return total
