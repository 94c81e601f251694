"""Learns a family by asking for its groups."""

from crewlists.errors import NoFamily
from crewlists.groups import groups
from crewlists.marks import first_shift, told_family


class Asker:
    """Answers whether groups are placeable in a family, and notes them."""

    def __init__(self, family):
        self.family = family
        self._noted = []

    def __call__(self, group):
        self._noted.append(group)
        return group in self.family

    @property
    def asked(self):
        """Return the list of all groups noted so far."""
        return list(self._noted)


def learn(size, ask):
    """Return the Family of the groups to which ask, a function, says True; no more are asked for than needed."""
    marks = {(): True}
    for group in groups(size)[1:]:
        smaller = [group[:at] + group[at + 1:] for at in range(len(group))]
        marks[group] = all([marks[part] for part in smaller]) and ask(group)
    shift = first_shift(size, marks)
    if shift is not None:
        raise NoFamily(shift[0], shift[1])
    return told_family(size, marks)
