"""What evidence makes sure: whether a group is placeable, which families fit, and what to try next."""

from crewlists.cases import settle, walk
from crewlists.evidence import MOST_WRONG, Evidence
from crewlists.family import Family
from crewlists.groups import groups


def sure(evidence, group, *, most=400):
    """Return whether the group is placeable in all families that fit ("yes"), none ("no"), some ("open")."""
    with_word, with_found = settle(evidence, ((group, True),), most=most)
    without_word, without_found = settle(evidence, ((group, False),), most=most)
    if with_word == "jobs" and without_word == "jobs":
        return "open", with_found, without_found
    if with_word == "jobs":
        return "yes", with_found, without_found
    if without_word == "jobs":
        return "no", without_found, with_found
    return "none", with_found, without_found


def fitting(evidence, *, most=400):
    """Return the list of all families that fit, in the order of the walk."""
    return [Family(evidence.size, row[1]) for row in walk(evidence, most=most) if row[0] == "fits"]


def trial(evidence, *, most=400):
    """Return the best group to try next with the numbers of the families that say yes and no; None if none is."""
    families = fitting(evidence, most=most)
    best, least = None, len(families)
    for group in groups(evidence.size):
        yes = len([family for family in families if group in family])
        no = len(families) - yes
        if max(yes, no) < least:
            best, least = (group, yes, no), max(yes, no)
    return best


def least_wrong(evidence, *, most=400):
    """Return the least number of wrong sightings that lets a family fit, its job list, and what bars one less."""
    rows = []
    for count in range(MOST_WRONG + 1):
        word, found = settle(Evidence(evidence.size, evidence.sightings, count), most=most)
        if word == "jobs":
            return count, found, rows
        rows = found
