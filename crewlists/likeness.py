"""Which families differ in the names of the people alone."""

from crewlists.groups import recalled


def renaming(one, other):
    """Return the first order that renames one family into other, None if there is none."""
    found = _renamings(one, other)
    if not found:
        return None
    return found[0]


def symmetries(family):
    """Return the list of all orders that rename the family into itself."""
    return _renamings(family, family)


def _renamings(one, other):
    """Return the list of all orders that rename one family into other, as Python orders them."""
    if one.size != other.size or len(one.crews) != len(other.crews):
        return []
    known = {crew: True for crew in other.crews}
    return [order for order in _orders(one.size) if all([recalled(crew, order) in known for crew in one.crews])]


def _orders(size):
    """Return the list of all orders of the people of a size, as Python orders them."""
    found = [()]
    for _ in range(size):
        found = [order + (person,) for order in found for person in range(size) if person not in order]
    return found
