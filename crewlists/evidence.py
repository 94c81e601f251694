"""Evidence: sightings of groups that can work at the same time, or cannot; some of them may be wrong."""

from crewlists.checks import is_count, is_row
from crewlists.errors import BadSighting, TooMany, Wrong
from crewlists.groups import is_group
from crewlists.reasons import is_explained

MOST_PEOPLE = 6
MOST_SIGHTINGS = 40
MOST_WRONG = 40


class Evidence:
    """Sightings (group, truth) of people of a size, of which at most as many as wrong says may be wrong."""

    def __init__(self, size, sightings, wrong=0):
        if not is_count(size, MOST_PEOPLE):
            raise Wrong(0)
        if not is_row(sightings, MOST_SIGHTINGS):
            raise Wrong(1)
        if not is_count(wrong, MOST_WRONG):
            raise Wrong(2)
        for at, sighting in enumerate(sightings):
            if not is_sighting(size, sighting):
                raise BadSighting(at)
        self.size = size
        self.sightings = tuple(sightings)
        self.wrong = wrong

    def against(self, family):
        """Return the indexes of the sightings that are wrong for a family of this size."""
        return tuple([at for at, (group, truth) in enumerate(self.sightings) if (group in family) != truth])

    def fits(self, family):
        """Return whether a Family fits."""
        if family.size != self.size or len(self.against(family)) > self.wrong:
            return False
        return is_explained(family)

    def __eq__(self, other):
        return (
            isinstance(other, Evidence) and self.size == other.size
            and self.sightings == other.sightings and self.wrong == other.wrong
        )

    def __len__(self):
        return len(self.sightings)

    def __add__(self, sighting):
        if len(self.sightings) >= MOST_SIGHTINGS:
            raise TooMany(MOST_SIGHTINGS)
        return Evidence(self.size, self.sightings + (sighting,), self.wrong)


def is_sighting(size, thing):
    """Return whether thing, any value, is a group of the size with True or False."""
    return isinstance(thing, tuple) and len(thing) == 2 and is_group(size, thing[0]) and isinstance(thing[1], bool)
