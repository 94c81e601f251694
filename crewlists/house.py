"""A house that collects sightings: deeds change what is told, and may be taken back."""

from crewlists.checks import is_count
from crewlists.errors import BadSighting, NoEntry, Nothing, TooMany, Wrong
from crewlists.evidence import MOST_PEOPLE, MOST_SIGHTINGS, MOST_WRONG, Evidence, is_sighting
from crewlists.sure import sure

MOST_DEEDS = 60


class House:
    """The sightings of people of a size, and how many of them may be wrong."""

    def __init__(self, size, slack=0):
        if not is_count(size, MOST_PEOPLE):
            raise Wrong(0)
        if not is_count(slack, MOST_WRONG):
            raise Wrong(1)
        self.size = size
        self.evidence = Evidence(size, (), slack)
        self.told = ()
        # The beginning, and behind it all deeds, those taken back too, each with the evidence that it leads to.
        self._steps = ((None, self.evidence),)
        self._done = 0

    @property
    def slack(self):
        """Return how many of the sightings may be wrong."""
        return self.evidence.wrong

    @property
    def log(self):
        """Return the list of the deeds that are done and not taken back."""
        return [step[0] for step in self._steps[1:self._done + 1]]

    def forget(self, at):
        """Take out the sighting with an index."""
        if not is_count(at, len(self.told) - 1):
            raise NoEntry(at)
        self._do(("forget", at), self.told[:at] + self.told[at + 1:], self.slack)

    def allow(self, slack):
        """Set how many sightings may be wrong."""
        self._do(("slack", slack), self.told, slack)

    def _do(self, deed, sightings, slack):
        """Do a deed, which leads to these sightings and this slack; let go all deeds that were taken back."""
        if self._done >= MOST_DEEDS:
            raise TooMany(MOST_DEEDS)
        evidence = Evidence(self.size, sightings)
        # Set behind its back: a slack beyond the limit of the constructor is no error of a deed.
        evidence.wrong = slack
        self._stand(self._steps[:self._done + 1] + ((deed, evidence),), self._done + 1)

    def _stand(self, steps, done):
        """Take on these steps, of which so many are done."""
        self._steps = steps
        self._done = done
        self.evidence = steps[done][1]
        self.told = self.evidence.sightings

    def undo(self):
        """Take the last deed of the log back."""
        if self._done == 0:
            raise Nothing()
        self._stand(self._steps, self._done - 1)

    def redo(self):
        """Do the deed again that was taken back last."""
        if self._done + 1 == len(self._steps):
            raise Nothing()
        self._stand(self._steps, self._done + 1)

    def ask(self, group):
        """Return whether the group is placeable in all families that fit ("yes"), none ("no"), some ("open")."""
        return sure(self.evidence, group)[0]

    def until(self, count):
        """Return a House with the first count deeds of the log done, and nothing taken back."""
        if not is_count(count, self._done):
            raise NoEntry(count)
        return self._like(self._steps[:count + 1], count)

    def branch(self):
        """Return a House with the same log and the same deeds taken back."""
        return self._like(self._steps, self._done)

    def _like(self, steps, done):
        """Return a House of the same size with these steps, of which so many are done."""
        house = House(self.size)
        house._stand(steps, done)
        return house

    def during(self, deed):
        """Return what the deed, a function, returns for the house; afterwards the house is as it was before."""
        steps = self._steps
        done = self._done
        evidence = self.evidence
        told = self.told
        try:
            return deed(self)
        finally:
            self._steps = steps
            self._done = done
            self.evidence = evidence
            self.told = told

    def __len__(self):
        return len(self.told)

    def __iter__(self):
        return iter(self.told)

    def __getitem__(self, group):
        return tuple([truth for seen, truth in self.told if seen == group])

    def __setitem__(self, group, truth):
        if not is_sighting(self.size, (group, truth)):
            raise BadSighting(0)
        if len(self.told) >= MOST_SIGHTINGS:
            raise TooMany(MOST_SIGHTINGS)
        self._do(("tell", group, truth), self.told + ((group, truth),), self.slack)
