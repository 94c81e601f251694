"""Groups of the greatest worth, and what a person must be worth to be in one."""

from crewlists.groups import is_group, together


def dearest(family, worths, many):
    """Return the first dearest group of many people, and what bars a dearer one."""
    group = ()
    # Whoever is worth most and still fits is never wrong; of equal ones the first leads to the first group.
    for _, person in sorted([(-worth, person) for person, worth in enumerate(worths)]):
        larger = together(group, (person,))
        if len(group) < many and larger in family:
            group = larger
    levels = []
    for worth in sorted(set(worths))[::-1]:
        people = tuple([person for person, own in enumerate(worths) if own >= worth])
        levels.append((worth, people, len([person for person in people if person in group])))
    return group, levels


def is_dearest(family, worths, many, thing):
    """Return whether thing, any value, is a dearest group of many people."""
    if not is_group(family.size, thing) or len(thing) != many or thing not in family:
        return False
    return _worth(worths, thing) == _worth(worths, dearest(family, worths, many)[0])


def _worth(worths, group):
    """Return the sum of the worths of the members."""
    return sum([worths[person] for person in group])


def price(family, worths, many, person):
    """Return the worth from which on the person is in some dearest group of many people, or "always", "never"."""
    rows = [group for group in family if len(group) == many]
    having = [_worth(worths, group) - worths[person] for group in rows if person in group]
    without = [_worth(worths, group) for group in rows if person not in group]
    if not without:
        return ("always",)
    if not having:
        return ("never",)
    return "from", max(without) - max(having)
