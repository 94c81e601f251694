"""Plans of trials that tell the families apart that fit evidence."""

from crewlists.checks import is_crews, is_tree
from crewlists.errors import TooMany
from crewlists.groups import groups
from crewlists.sure import fitting

MOST_FAMILIES = 5


def is_plan(evidence, count, thing, *, most=400):
    """Return whether thing, any value, is a plan for the evidence with at most count trials on each way."""
    families = fitting(evidence, most=most)
    if not families:
        return isinstance(thing, list) and len(thing) == 0
    if not is_tree(thing, "try"):
        return False
    # For each row that is named: the families that are possible there, and the trials that are left.
    cases = {0: (families, count)}
    for at, row in enumerate(thing):
        possible, trials = cases[at]
        if row[0] == "try" and trials > 0:
            _, group, yes, no = row
            # A trial that does not tell, or of what is no group, leaves no family on one way: no end is right there.
            cases[yes] = ([family for family in possible if group in family], trials - 1)
            cases[no] = ([family for family in possible if group not in family], trials - 1)
        elif not _is_end(possible, row):
            return False
    return True


def _is_end(possible, row):
    """Return whether a row, a tuple that begins with a string, is right as the end of a way."""
    return row[0] == "family" and len(row) == 2 and len(possible) == 1 and is_crews(possible[0], row[1])


def least_plan(evidence, *, most=400):
    """Return the least number of trials on each way that a plan can do with, and such a plan."""
    families = fitting(evidence, most=most)
    if len(families) > MOST_FAMILIES:
        raise TooMany(MOST_FAMILIES)
    if not families:
        return 0, []
    best = _best_trials(evidence.size, families)
    everything = (1 << len(families)) - 1
    return best[everything][0], _rows(families, best, everything, 0)


def _best_trials(size, families):
    """Return, for each nonempty set of the families, the least number of trials and the group to try first.

    A set is a number here, with a bit for each of its families.
    """
    splits = [(group, _bits([group in family for family in families])) for group in groups(size)]
    best = {}
    for possible in range(1, 1 << len(families)):
        # Only a single family needs no trial; of more, there are groups that tell some from others.
        best[possible] = (0, None)
        for group, having in splits:
            yes, no = possible & having, possible & ~having
            if yes and no:
                many = 1 + max(best[yes][0], best[no][0])
                if best[possible][1] is None or many < best[possible][0]:
                    best[possible] = (many, group)
    return best


def _bits(truths):
    """Return the number that has a bit for each place of a truth that holds."""
    return sum([1 << at for at, truth in enumerate(truths) if truth])


def _rows(families, best, possible, at):
    """Return the rows of a best plan for a set of the families, where the first one has the index at."""
    group = best[possible][1]
    if group is None:
        left = [family for to, family in enumerate(families) if possible >> to & 1]
        return [("family", left[0].crews)]
    having = possible & _bits([group in family for family in families])
    yes = _rows(families, best, having, at + 1)
    no_at = at + 1 + len(yes)
    return [("try", group, at + 1, no_at)] + yes + _rows(families, best, possible & ~having, no_at)
