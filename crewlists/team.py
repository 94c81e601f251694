"""A crew at work, whose members are exchanged."""

from crewlists.errors import NoSwap, NotInTeam, Nothing, Unlike, Wrong
from crewlists.exchanges import ins, swapped
from crewlists.family import Family
from crewlists.groups import apart, is_group, is_integer


class Team:
    """A crew of a family, with the log of the exchanges that are done."""

    def __init__(self, family, crew):
        if not isinstance(family, Family):
            raise Wrong(0)
        if not is_group(family.size, crew) or crew not in family.crews:
            raise Wrong(1)
        self.family = family
        self.crew = crew
        self._log = ()

    @property
    def log(self):
        """Return the list of the exchanges that are done, each a tuple (person, newcomer)."""
        return list(self._log)

    def undo(self):
        """Take the last exchange back."""
        if not self._log:
            raise Nothing()
        person, newcomer = self._log[-1]
        self.crew = swapped(self.crew, newcomer, person)
        self._log = self._log[:-1]

    def during(self, deed):
        """Return what the deed, a function, returns for the team; afterwards the team is as it was before."""
        crew = self.crew
        log = self._log
        try:
            return deed(self)
        finally:
            self.crew = crew
            self._log = log

    def __len__(self):
        return len(self.crew)

    def __iter__(self):
        return iter(self.crew)

    def __contains__(self, person):
        return is_integer(person) and person in self.crew

    def __getitem__(self, person):
        if person not in self:
            raise NotInTeam(person)
        return ins(self.family, self.crew, person)

    def __setitem__(self, person, newcomer):
        if person not in self:
            raise NotInTeam(person)
        if not is_integer(newcomer) or newcomer not in self[person]:
            raise NoSwap(person, newcomer)
        self.crew = swapped(self.crew, person, newcomer)
        self._log = self._log + ((person, newcomer),)

    def __sub__(self, other):
        if self.family != other.family:
            raise Unlike()
        return len(apart(self.crew, other.crew))

    def __eq__(self, other):
        return isinstance(other, Team) and self.family == other.family and self.crew == other.crew
