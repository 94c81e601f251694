"""What two families have in common, and families with a helper."""

from crewlists.errors import TooMany, Unlike
from crewlists.family import LIMIT, Family
from crewlists.groups import apart, groups, is_part, others, parts
from crewlists.structure import closure


def parted(one, other, group):
    """Return ("parted", first, second) with a group placeable in each, or ("short", part) that bars this."""
    if one.size != other.size:
        raise Unlike()
    for first in parts(group):
        if first in one and apart(group, first) in other:
            return "parted", first, apart(group, first)
    for part in parts(group):
        if one.strength(part) + other.strength(part) < len(part):
            return "short", part


def common(one, other):
    """Return the first of the longest groups placeable in both, and the first group that bars a longer one."""
    if one.size != other.size:
        raise Unlike()
    longest = ()
    for group in groups(one.size):
        if len(group) > len(longest) and group in one and group in other:
            longest = group
    for part in groups(one.size):
        if one.strength(part) + other.strength(others(one.size, part)) == len(longest):
            return longest, part


def helper(family, group):
    """Return the Family with one more person, who helps wherever not all of the group hang on the others."""
    if family.size == LIMIT:
        raise TooMany(LIMIT)
    newcomer = (family.size,)
    crews = list(family.crews)
    for placed in family:
        if len(placed) == family.full - 1 and not is_part(group, closure(family, placed)):
            crews.append(placed + newcomer)
    return Family(family.size + 1, crews)
