"""Groups of people: ascending tuples of different numbers below a size."""


def is_integer(thing):
    """Return whether thing, any value, is an integer; True and False are none."""
    return isinstance(thing, int) and not isinstance(thing, bool)


def is_group(size, thing):
    """Return whether thing, any value, is a group of the size."""
    if not isinstance(thing, tuple):
        return False
    least = 0
    for person in thing:
        if not is_integer(person) or person < least or person >= size:
            return False
        least = person + 1
    return True


def in_order(rows):
    """Return the list of the groups in rows by length, those of one length as Python orders them."""
    return sorted(sorted(rows), key=len)


def groups(size):
    """Return the list of all groups of the size, in order."""
    return parts(tuple(range(size)))


def parts(group):
    """Return the list of all parts of a group, in order."""
    found = [()]
    for person in group:
        found = found + [part + (person,) for part in found]
    return in_order(found)


def together(one, other):
    """Return the group of all who are in one of two groups."""
    return tuple(sorted(set(one + other)))


def apart(one, other):
    """Return the group of all who are in one and not in other."""
    return tuple([person for person in one if person not in other])


def others(size, group):
    """Return the group of all people of the size who are not in the group."""
    return apart(tuple(range(size)), group)


def is_part(one, other):
    """Return whether all members of one are in other."""
    return apart(one, other) == ()


def renumbered(group, stay):
    """Return the group with each member called by their place in stay; who is not there is left out."""
    return tuple([stay.index(person) for person in group if person in stay])


def shifted(group, by):
    """Return the group with each number greater by the same."""
    return tuple([person + by for person in group])


def recalled(group, order):
    """Return the group in which person p is called order[p]."""
    return tuple(sorted([order[person] for person in group]))
