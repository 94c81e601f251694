"""Walks through the cases that evidence leaves open, down to the families that fit."""

from crewlists.checks import is_crews, is_tree
from crewlists.errors import TooMany
from crewlists.family import Family
from crewlists.groups import groups, is_group
from crewlists.marks import first_marks, first_shift, is_complete, is_shift, marked, told_family
from crewlists.reasons import is_answer, lists_of


def is_walk(evidence, begun, thing):
    """Return whether thing, any value, is a walk for the evidence."""
    if not is_tree(thing, "ask"):
        return False
    cases = {0: first_marks(evidence.size, begun)}
    for at, row in enumerate(thing):
        marks = cases[at]
        if not _is_right(evidence, marks, row):
            return False
        if row[0] == "ask":
            _, group, yes, no = row
            cases[yes] = marked(evidence.size, marks, group, True)
            cases[no] = marked(evidence.size, marks, group, False)
    return True


def _is_right(evidence, marks, row):
    """Return whether a row, a tuple that begins with a string, is right in a case; indexes of rows apart."""
    word = row[0]
    if word == "ask":
        return is_group(evidence.size, row[1]) and row[1] not in marks
    if word == "shift":
        return len(row) == 3 and _is_shift(evidence.size, marks, row[1], row[2])
    if len(row) != 2:
        return False
    if word == "wrong":
        return _is_wrong(evidence, marks, row[1])
    return word in ("quarrel", "fits") and _is_end(evidence, marks, word, row[1])


def _is_shift(size, marks, one, other):
    """Return whether one and other, any values, are right in a row "shift"."""
    return is_group(size, one) and is_group(size, other) and is_shift(size, marks, one, other)


def _is_wrong(evidence, marks, thing):
    """Return whether thing, any value, is right in a row "wrong"."""
    if not isinstance(thing, tuple) or len(thing) != evidence.wrong + 1:
        return False
    # An ascending tuple of indexes is a group as well, and its members are all in the group of the right ones.
    barred = _against(evidence, marks)
    return is_group(len(evidence), thing) and all([at in barred for at in thing])


def _is_end(evidence, marks, word, thing):
    """Return whether thing, any value, is right in a row "quarrel" or "fits"."""
    if not is_complete(evidence.size, marks) or first_shift(evidence.size, marks) is not None:
        return False
    family = told_family(evidence.size, marks)
    if word == "fits":
        return is_crews(family, thing) and evidence.fits(family)
    return is_answer(family, thing) and thing[0] != "jobs"


def _against(evidence, marks):
    """Return the list of the indexes of the sightings whose group is marked otherwise than they say."""
    return [at for at, (group, truth) in enumerate(evidence.sightings) if marks.get(group, truth) != truth]


def walk(evidence, begun=(), *, most=400):
    """Return the walk in which the first row that is right stands in each case."""
    return _rows(evidence, begun, most, False)


def settle(evidence, begun=(), *, most=400):
    """Return ("jobs", jobs) for the first family of the walk that fits, ("none", rows) if there is none."""
    rows = _rows(evidence, begun, most, True)
    if rows[-1][0] == "fits":
        return lists_of(Family(evidence.size, rows[-1][1]))
    return "none", rows


def _rows(evidence, begun, most, settling):
    """Return the rows of the walk; if it is for settling, those up to the first row "fits"."""
    rows = []
    # Each case waits with the index of the row whose no case it is; a yes case is met right behind its row.
    waiting = [(first_marks(evidence.size, begun), None)]
    while waiting:
        marks, asked = waiting.pop()
        at = len(rows)
        if at >= most:
            raise TooMany(most)
        if asked is not None:
            rows[asked] = rows[asked] + (at,)
        row = _first_row(evidence, marks)
        if row[0] == "ask":
            waiting.append((marked(evidence.size, marks, row[1], False), at))
            waiting.append((marked(evidence.size, marks, row[1], True), None))
            row = row + (at + 1,)
        rows.append(row)
        if settling and row[0] == "fits":
            return rows
    return rows


def _first_row(evidence, marks):
    """Return the first row that is right in a case; a row "ask" without its indexes."""
    barred = _against(evidence, marks)
    if len(barred) > evidence.wrong:
        return "wrong", tuple(barred[:evidence.wrong + 1])
    shift = first_shift(evidence.size, marks)
    if shift is not None:
        return "shift", shift[0], shift[1]
    if not is_complete(evidence.size, marks):
        return "ask", _next_group(evidence, marks)
    family = told_family(evidence.size, marks)
    answer = lists_of(family)
    if answer[0] == "jobs":
        return "fits", family.crews
    return "quarrel", answer


def _next_group(evidence, marks):
    """Return the group that is asked for next: of the first sighting that is open, otherwise the first open one."""
    asked = [group for group, _ in evidence.sightings] + groups(evidence.size)
    return [group for group in asked if group not in marks][0]
