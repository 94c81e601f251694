"""Decides whether a family has an explanation: the greatest one, or the numbers that bar every one."""

from crewlists.errors import NotExplained
from crewlists.groups import groups, in_order, is_group, is_integer, others
from crewlists.jobs import Jobs
from crewlists.weights import above, room, sum_above, weights


def lists_of(family):
    """Return the first reason why the family has no explanation, or its greatest tight one."""
    weighed = weights(family)
    for knot, weight in weighed:
        if weight < 0:
            return "below", knot, weight
    for group in groups(family.size):
        total = sum_above(weighed, group)
        if total > room(family, group):
            return "over", group, total
    return "jobs", Jobs(family.size, _greatest(family.size, weighed))


def _greatest(size, weighed):
    """Return the list of the groups of all outside of a knot, each as often as its weight says, in order."""
    found = []
    for knot, weight in weighed:
        found.extend([others(size, knot)] * weight)
    return in_order(found)


def is_answer(family, thing):
    """Return whether thing, any value, is a right answer to whether the family has an explanation."""
    if not isinstance(thing, tuple) or len(thing) == 0 or not isinstance(thing[0], str):
        return False
    if len(thing) == 2:
        return thing[0] == "jobs" and _is_greatest(family, thing[1])
    if len(thing) != 3 or not is_group(family.size, thing[1]) or not is_integer(thing[2]):
        return False
    if thing[0] == "below":
        return thing[2] < 0 and (thing[1], thing[2]) in weights(family)
    return thing[0] == "over" and thing[2] == above(family, thing[1]) and thing[2] > room(family, thing[1])


def _is_greatest(family, thing):
    """Return whether thing is the greatest tight explanation, with its jobs in any order."""
    if not isinstance(thing, Jobs):
        return False
    answer = lists_of(family)
    return answer[0] == "jobs" and answer[1] == Jobs(thing.size, in_order(thing.jobs))


def is_explained(family):
    """Return whether the family has an explanation."""
    return lists_of(family)[0] == "jobs"


def explained(family):
    """Return the greatest tight explanation; raise NotExplained if there is none."""
    answer = lists_of(family)
    if answer[0] != "jobs":
        raise NotExplained(answer)
    return answer[1]
