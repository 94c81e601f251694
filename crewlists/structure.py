"""The structure of a family: who hangs on whom, clashes, knots and blocks."""

from crewlists.groups import apart, groups, together


def hangs(family, group, person):
    """Return whether the person hangs on the group."""
    return family.strength(together(group, (person,))) == family.strength(group)


def closure(family, group):
    """Return the group of all who hang on the group."""
    return tuple([person for person in range(family.size) if hangs(family, group, person)])


def round_part(family, group):
    """Return the group of all members who are in a clash that is a part of the group."""
    # A member is in such a clash if and only if they hang on the others.
    return tuple([person for person in group if hangs(family, apart(group, (person,)), person)])


def is_closed(family, group):
    """Return whether everybody who hangs on the group is a member."""
    return closure(family, group) == group


def is_round(family, group):
    """Return whether each member is in a clash that is a part of the group."""
    return round_part(family, group) == group


def is_knot(family, group):
    """Return whether the group is closed and round."""
    return is_closed(family, group) and is_round(family, group)


def clash_within(family, group, person):
    """Return the only clash in the placeable group together with a person who hangs on it."""
    larger = together(group, (person,))
    return tuple([member for member in larger if apart(larger, (member,)) in family])


def clashes(family):
    """Return the list of all clashes, in order."""
    return [group for group in groups(family.size) if _is_clash(family, group)]


def _is_clash(family, group):
    """Return whether the group is not placeable while all its other parts are."""
    return group not in family and all([apart(group, (person,)) in family for person in group])


def knots(family):
    """Return the list of all knots, in order."""
    return [group for group in groups(family.size) if is_knot(family, group)]


def idle(family):
    """Return the group of all who are in no crew."""
    return tuple([person for person in range(family.size) if (person,) not in family])


def needed(family):
    """Return the group of all who are in every crew."""
    return tuple([person for person in range(family.size) if all([person in crew for crew in family.crews])])


def blocks(family):
    """Return the list of the blocks, in the order of their least members."""
    found = []
    all_clashes = clashes(family)
    for person in range(family.size):
        block = (person,)
        for clash in all_clashes:
            if person in clash:
                block = together(block, clash)
        if block[0] == person:
            found.append(block)
    return found
