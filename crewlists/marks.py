"""Marks of groups: which are said to be placeable, which not; and the family that complete marks tell.

Marks are a dict with True for a group that is marked yes, and False for one that is marked no.
"""

from crewlists.family import family_of
from crewlists.groups import groups, is_part, others, parts, together


def first_marks(size, begun):
    """Return the marks of a case in which just () and what is begun are marked."""
    marks = {(): True}
    for group, truth in begun:
        marks = marked(size, marks, group, truth)
    return marks


def marked(size, marks, group, truth):
    """Return the marks with one more group: yes with all its parts, or no with all that it is a part of."""
    found = {other: marks[other] for other in marks}
    if truth:
        for part in parts(group):
            found[part] = True
    else:
        for other in groups(size):
            if is_part(group, other):
                found[other] = False
    return found


def is_complete(size, marks):
    """Return whether all groups of the size are marked."""
    return len(marks) == 1 << size


def is_shift(size, marks, one, other):
    """Return whether other has one member more than one, but nobody in it makes one a larger group; both are yes."""
    if not marks.get(one, False) or not marks.get(other, False) or len(other) != len(one) + 1:
        return False
    return is_part(other, one + _barred(size, marks, one))


def first_shift(size, marks):
    """Return the first groups (one, other) of which no member of other makes one a larger group; None if none are."""
    yes = _yes_groups(size, marks)
    for one in yes:
        barred = _barred(size, marks, one)
        # Most often nobody is: this saves the look at all larger groups.
        if barred:
            for other in yes:
                if len(other) == len(one) + 1 and is_part(other, one + barred):
                    return one, other
    return None


def _barred(size, marks, group):
    """Return all who are not in the group and with whom it is marked no."""
    return tuple([person for person in others(size, group) if not marks.get(together(group, (person,)), True)])


def _yes_groups(size, marks):
    """Return the list of the groups that are marked yes, in order."""
    return [group for group in groups(size) if marks.get(group, False)]


def told_family(size, marks):
    """Return the Family whose placeable groups are those marked yes; no shift is right."""
    return family_of(size, _yes_groups(size, marks))
