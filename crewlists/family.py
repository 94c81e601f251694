"""Families of groups: which groups can work at the same time, whatever the jobs are."""

from crewlists.checks import is_count, is_row
from crewlists.dealing import placeable
from crewlists.errors import BadCrew, NoCrew, NoExchange, TooMany, Uneven, Unlike, Wrong
from crewlists.groups import (
    apart, groups, in_order, is_group, is_part, others, parts, recalled, renumbered, shifted, together,
)

LIMIT = 7
MOST_CREWS = 100


class Family:
    """A family of a size, given by its crews: a group is placeable if it is a part of a crew."""

    def __init__(self, size, crews):
        if not is_count(size, LIMIT):
            raise Wrong(0)
        if not is_row(crews, MOST_CREWS):
            raise Wrong(1)
        _check_groups(size, crews)
        found = _distinct(crews)
        _check_exchanges(size, found)
        self.size = size
        self.crews = tuple(found)
        self.full = len(found[0])
        self._groups = tuple(_distinct([part for crew in found for part in parts(crew)]))
        self._strengths = _strengths(size, self._groups)

    @classmethod
    def of(cls, jobs):
        """Return the family of the placeable groups of a Jobs."""
        return cls(jobs.size, _longest(placeable(jobs)))

    @staticmethod
    def uniform(size, many):
        """Return the family whose crews are all groups with many members."""
        return Family(size, [group for group in groups(size) if len(group) == many])

    def strength(self, group):
        """Return the strength of a group."""
        return self._strengths[group]

    def renamed(self, order):
        """Return the Family in which person p is called order[p]."""
        return Family(self.size, [recalled(crew, order) for crew in self.crews])

    def capped(self, limit):
        """Return the Family of the placeable groups with at most limit members."""
        return family_of(self.size, [group for group in self._groups if len(group) <= limit])

    def __contains__(self, group):
        return is_group(self.size, group) and self._strengths[group] == len(group)

    def __iter__(self):
        return iter(self._groups)

    def __len__(self):
        return len(self._groups)

    def __eq__(self, other):
        return isinstance(other, Family) and self.size == other.size and self.crews == other.crews

    def __add__(self, other):
        if self.size != other.size:
            raise Unlike()
        # A longest union of two placeable groups is one of two crews.
        unions = [together(one, behind) for one in self.crews for behind in other.crews]
        return Family(self.size, _distinct(_longest(unions)))

    def __or__(self, other):
        if self.size + other.size > LIMIT:
            raise TooMany(LIMIT)
        behind = [shifted(crew, self.size) for crew in other.crews]
        return Family(self.size + other.size, [crew + more for crew in self.crews for more in behind])

    def __sub__(self, group):
        stay = others(self.size, group)
        left = _longest([placed for placed in self._groups if is_part(placed, stay)])
        return Family(len(stay), [renumbered(crew, stay) for crew in left])

    def __floordiv__(self, group):
        stay = others(self.size, group)
        many = self.full - self._strengths[group]
        left = [part for part in parts(stay) if len(part) == many]
        crews = [part for part in left if self._strengths[together(part, group)] == self.full]
        return Family(len(stay), [renumbered(crew, stay) for crew in crews])

    def __invert__(self):
        return Family(self.size, [others(self.size, crew) for crew in self.crews])


def family_of(size, placed):
    """Return the Family whose placeable groups are those in placed."""
    return Family(size, _longest(placed))


def _check_groups(size, crews):
    """Raise the error of the first item that is no group of the size, or of another length than the first."""
    for at, crew in enumerate(crews):
        if not is_group(size, crew):
            raise BadCrew(at)
    if len(crews) == 0:
        raise NoCrew()
    for at, crew in enumerate(crews):
        if len(crew) != len(crews[0]):
            raise Uneven(at)


def _check_exchanges(size, crews):
    """Raise NoExchange for the first two crews, and the least person of one, that nobody of other can replace."""
    known = {crew: True for crew in crews}
    for one in crews:
        fitting = {member: newcomers(size, known, one, member) for member in one}
        for other in crews:
            for person in apart(one, other):
                if not any([newcomer in other for newcomer in fitting[person]]):
                    raise NoExchange(one, other, person)


def newcomers(size, known, crew, person):
    """Return those who make one of the known crews if put in the place of a member of the crew."""
    rest = apart(crew, (person,))
    return [newcomer for newcomer in others(size, crew) if together(rest, (newcomer,)) in known]


def _distinct(rows):
    """Return the list of the different groups in rows, in order."""
    return in_order(list({group: True for group in rows}))


def _longest(rows):
    """Return the list of the groups in rows that have the greatest length."""
    most = max([len(group) for group in rows])
    return [group for group in rows if len(group) == most]


def _strengths(size, placed):
    """Return the dict of the strengths of all groups, where those in placed are the placeable ones."""
    found = {part: len(part) for part in placed}
    for group in groups(size):
        if group not in found:
            found[group] = max([found[group[:at] + group[at + 1:]] for at in range(len(group))])
    return found
