"""What several tests need: odd values, small job lists, and slow counts made without the package."""

from functools import cache
from itertools import combinations, permutations
from random import Random

from crewlists.errors import CrewError, Nothing
from crewlists.evidence import Evidence
from crewlists.family import Family
from crewlists.jobs import Jobs


def nested(depth):
    """Return a tuple within a tuple, and so on."""
    thing = (0,)
    for _ in range(depth - 1):
        thing = (thing,)
    return thing


def odd_values():
    """Return values of every kind; few of them fit anywhere."""
    return [
        None, True, False, -1, -10 ** 40, 8, 10 ** 40, "", "ab", "0", b"", b"\x00\x01",
        [], [0], [0, 1], [()], {}, {0: 1}, {(): ()}, set(), {0, 1}, frozenset({0}),
        (True,), (False,), (False, True), (0, True), (False, 1), (0, 0), (1, 0), (-1,), (-1, 0), (0, 8), (10 ** 40,),
        ("a",), ("0",), (None,), ([],), ({},), (set(),), ((),), ((0,),), ((0, 1),), (b"a",), ((True,),),
        nested(20), [nested(18)], tuple(range(5000)), "x" * 5000, range(3), len, Jobs, ValueError,
        Jobs(0, []), Jobs(2, [(0, 1)]), (Jobs(1, [(0,)]),), CrewError("odd"), Nothing(), object(),
    ]


def same_kind(one, other):
    """Return whether two results are equal and of the same kinds all through."""
    if one.__class__ is not other.__class__:
        return False
    if isinstance(one, (list, tuple)):
        return len(one) == len(other) and all(same_kind(a, b) for a, b in zip(one, other))
    return one == other


def all_groups(size):
    """Return all groups of a size in order."""
    return [group for many in range(size + 1) for group in combinations(range(size), many)]


def parts_of(group):
    """Return all parts of a group in order."""
    return [part for many in range(len(group) + 1) for part in combinations(group, many)]


def union(*rows):
    """Return the group of all who are in one of some groups."""
    return tuple(sorted(set().union(*rows)))


def minus(one, other):
    """Return the group of all who are in one and not in other."""
    return tuple(sorted(set(one) - set(other)))


def slow_deals(jobs, group):
    """Return all deals in order, by going through all tuples of different indexes."""
    return [
        dealt for dealt in permutations(range(len(jobs.jobs)), len(group))
        if all(person in jobs.jobs[at] for person, at in zip(group, dealt))
    ]


def slow_placeable(jobs):
    """Return all placeable groups in order."""
    return [group for group in all_groups(jobs.size) if slow_deals(jobs, group)]


def slow_open(jobs, group):
    """Return the indexes of the jobs that are open to the group."""
    return tuple(at for at, job in enumerate(jobs.jobs) if set(job) & set(group))


def slow_short(jobs, group):
    """Return the short part of a group, straight from its definition."""
    lacks = {part: len(part) - len(slow_open(jobs, part)) for part in parts_of(group)}
    worst = [part for part in lacks if lacks[part] == max(lacks.values())]
    inner = [part for part in worst if all(set(part) <= set(other) for other in worst)]
    assert len(inner) == 1
    return inner[0]


def slow_strength(jobs, group):
    """Return the length of the longest part of a group that has a deal."""
    return max(len(part) for part in parts_of(group) if slow_deals(jobs, part))


def job_lists(size, many):
    """Return all Jobs of a size with many jobs, up to the order of the jobs."""
    found = [[]]
    rows = all_groups(size)
    for _ in range(many):
        found = [jobs + [job] for jobs in found for job in rows if not jobs or rows.index(jobs[-1]) <= rows.index(job)]
    return [Jobs(size, jobs) for jobs in found]


def few_lists():
    """Return all Jobs of at most three people and three jobs, up to the order of the jobs."""
    return [jobs for size in range(4) for many in range(4) for jobs in job_lists(size, many)]


def random_lists(seed, count, most=7):
    """Return some Jobs of all sizes and numbers of jobs up to most, the jobs in any order."""
    chance = Random(seed)
    found = []
    for _ in range(count):
        size = chance.randint(0, most)
        likely = chance.choice([1, 2, 3, 5])
        jobs = [
            tuple(person for person in range(size) if chance.randint(0, 5) < likely)
            for _ in range(chance.randint(0, most))
        ]
        found.append(Jobs(size, jobs))
    return found


def grown(jobs):
    """Return all placeable groups in order, by letting one job after the other take nobody or one more person."""
    found = {frozenset()}
    for job in jobs.jobs:
        found |= {group | {person} for group in found for person in job}
    return in_order(tuple(sorted(group)) for group in found)


def in_order(rows):
    """Return the list of the groups in rows by length, those of one length as Python orders them."""
    return sorted(rows, key=lambda group: (len(group), group))


def slow_apart(one, other):
    """Return all groups that are placeable in just one of two job lists, in order."""
    return in_order(set(grown(one)) ^ set(grown(other)))


def filled(jobs, indexes):
    """Return the Jobs in which everybody is put into the jobs with these indexes who changes no group there."""
    placed, left, before = grown(jobs), jobs, None
    while left != before:
        before = left
        for at in indexes:
            for person in range(jobs.size):
                more = Jobs(jobs.size, left.jobs[:at] + (union(left.jobs[at], (person,)),) + left.jobs[at + 1:])
                if grown(more) == placed:
                    left = more
    return left


def tight(jobs):
    """Return the Jobs with just those jobs that one crew does."""
    dealt = slow_deals(jobs, grown(jobs)[-1])[0]
    return Jobs(jobs.size, [jobs.jobs[at] for at in sorted(dealt)])


def slow_greatest(jobs, many=None):
    """Return the greatest alike job list, by putting people in until nobody more may be put in."""
    least = tight(jobs)
    many = len(least) if many is None else many
    found = filled(Jobs(jobs.size, least.jobs + ((),) * (many - len(least))), range(many))
    return Jobs(jobs.size, in_order(found.jobs))


def struck_lists(jobs):
    """Return all Jobs that have one person less in one job, as tuples (index, person, Jobs)."""
    return [
        (at, person, Jobs(jobs.size, jobs.jobs[:at] + (minus(job, (person,)),) + jobs.jobs[at + 1:]))
        for at, job in enumerate(jobs.jobs) for person in job
    ]


def explanations(size, many):
    """Return the dict of all Jobs with many jobs, by the crews of their families."""
    found = {}
    for jobs in job_lists(size, many):
        found.setdefault(Family.of(jobs).crews, []).append(jobs)
    return found


def lies_below(jobs, greater):
    """Return whether the jobs can be paired with greater ones so that each is a part of its partner."""
    if len(jobs) != len(greater):
        return False
    return any(
        all(set(job) <= set(upper) for job, upper in zip(jobs.jobs, order))
        for order in permutations(greater.jobs)
    )


# The sizes and numbers of jobs whose job lists are all gone through.
FEW_SHAPES = (
    (0, 0), (1, 0), (1, 1), (2, 1), (2, 2), (3, 0), (3, 1), (3, 2), (3, 3), (4, 1), (4, 2), (4, 3), (4, 4), (5, 2),
    (5, 3), (6, 2),
)


@cache
def explained_families():
    """Return tuples (family, all its tight explanations) for all families with few enough job lists."""
    found = []
    for size, many in FEW_SHAPES:
        for crews, explaining in explanations(size, many).items():
            if len(crews[0]) == many:
                found.append((Family(size, crews), explaining))
    return found


def slow_fault(crews):
    """Return the first crew, the first other and the least person without an exchange; None if there is none."""
    rows = sorted(set(crews), key=lambda crew: (len(crew), crew))
    for one in rows:
        for other in rows:
            for person in minus(one, other):
                made = [union(minus(one, (person,)), (newcomer,)) for newcomer in minus(other, one)]
                if not any(crew in rows for crew in made):
                    return one, other, person
    return None


def crew_sets(size, many):
    """Return all lists of one or more different groups with many members, the groups in order."""
    rows = list(combinations(range(size), many))
    return [
        [crew for at, crew in enumerate(rows) if chosen >> at & 1]
        for chosen in range(1, 1 << len(rows))
    ]


@cache
def families_of(size):
    """Return the tuple of all Families of a size, told from other lists of crews by the slow look at exchanges."""
    return tuple(
        Family(size, crews)
        for many in range(size + 1) for crews in crew_sets(size, many) if slow_fault(crews) is None
    )


def all_families(size):
    """Return a new list of all Families of a size."""
    return list(families_of(size))


def few_families():
    """Return all Families of at most four people, and some larger ones, some of them without an explanation."""
    found = [family for size in range(5) for family in all_families(size)]
    found.extend(all_families(5)[::15])
    return found + large_families()


def large_families():
    """Return some Families of six and seven people."""
    found = [Family.uniform(7, 0), Family.uniform(7, 3), Family.uniform(7, 7), PAIRS, LINES, ~LINES, ~PAIRS]
    lists = random_lists(8, 200)
    return found + [Family.of(jobs) for jobs in lists if jobs.size > 5 and len(jobs) in (2, 3, 4)][:12]


def slow_part_of_crews(family, group):
    """Return the strength of a group, by the members that it shares with a crew."""
    return max(len(set(group) & set(crew)) for crew in family.crews)


def unexplained_families():
    """Return families of six and seven people that have no explanation."""
    one = Family.uniform(1, 1)
    more = Family(7, [crew for crew in LINES.crews if crew != (1, 3, 5)])
    return [PAIRS, LINES, more, PAIRS | one, PAIRS | ~one]


def slow_clashes(family):
    """Return all clashes, straight from their definition."""
    placed = {part for crew in family.crews for part in parts_of(crew)}
    return [
        group for group in all_groups(family.size)
        if group not in placed and all(part in placed for part in parts_of(group)[:-1])
    ]


def slow_knots(family):
    """Return all knots: the groups outside of which nobody adds nothing, and whose members are all in clashes."""
    found = []
    for group in all_groups(family.size):
        old = slow_part_of_crews(family, group)
        others = minus(range(family.size), group)
        closed = all(slow_part_of_crews(family, union(group, (person,))) > old for person in others)
        if closed and union(*[clash for clash in slow_clashes(family) if set(clash) <= set(group)]) == group:
            found.append(group)
    return found


def slow_weights(family):
    """Return the weights of the knots, from the longest one on."""
    found = {}
    for knot in reversed(slow_knots(family)):
        above = sum(weight for other, weight in found.items() if set(knot) < set(other))
        found[knot] = family.full - slow_part_of_crews(family, knot) - above
    return [(knot, found[knot]) for knot in reversed(list(found))]


def slow_above(family, group):
    """Return the sum of the weights of the knots that contain the group."""
    return sum(weight for knot, weight in slow_weights(family) if set(group) <= set(knot))


# Six people: all pairs are crews but three. Seven people: three lines through person 0.
PAIRS = Family(6, [pair for pair in combinations(range(6), 2) if pair not in ((0, 1), (2, 3), (4, 5))])
LINES = Family(7, [crew for crew in combinations(range(7), 3) if crew not in ((0, 1, 2), (0, 3, 4), (0, 5, 6))])


def drawn(seed, size, count):
    """Return some sightings of all groups of a size."""
    chance = Random(seed)
    return [(chance.choice(all_groups(size)), chance.choice([True, False])) for _ in range(count)]


def seen(chance, family, count, wrong):
    """Return some sightings, most of them true for the family, wrong of them perhaps not."""
    rows = [(group, group in family) for group in chance.choices(all_groups(family.size), k=count)]
    for at in chance.sample(range(count), min(wrong, count)):
        rows[at] = (rows[at][0], chance.choice([True, False]))
    return rows


def drawn_evidence(seed, count, most_people=4, most_sightings=40):
    """Return some Evidence with few and many sightings, some of which agree with a family and some with none."""
    chance = Random(seed)
    families = [family for size in range(most_people + 1) for family in all_families(size)]
    found = []
    for _ in range(count):
        family, many = chance.choice(families), chance.randint(0, most_sightings)
        wrong = chance.choice([0, 0, 1, 2, 5, 40])
        rows = seen(chance, family, many, chance.choice([0, wrong, wrong + 1, many]))
        found.append(Evidence(family.size, rows, chance.choice([0, wrong])))
    return found


def all_begun(size):
    """Return all that a walk may begin with."""
    return [()] + [((group, truth),) for group in all_groups(size)[1:] for truth in (True, False)]


def slow_marks(size, case):
    """Return the marks of a case, told by the list of the groups (group, truth) that were asked for or begun."""
    marks = {}
    for group in all_groups(size):
        if group == () or any(truth and set(group) <= set(other) for other, truth in case):
            marks[group] = True
        elif any(not truth and set(other) <= set(group) for other, truth in case):
            marks[group] = False
    return marks


def slow_shifts(marks):
    """Return all groups (one, other) that a row "shift" may have, in order."""
    return [
        (one, other) for one in marks for other in marks
        if marks[one] and marks[other] and len(other) == len(one) + 1
        and all(marks.get(union(one, (person,))) is False for person in minus(other, one))
    ]


def slow_answers(family):
    """Return all answers, the first one first, that are right for a family without an explanation."""
    weighed = slow_weights(family)
    answers = [("below", knot, weight) for knot, weight in weighed if weight < 0]
    for group in all_groups(family.size):
        total = sum(weight for knot, weight in weighed if set(group) <= set(knot))
        if total > family.full - slow_part_of_crews(family, group):
            answers.append(("over", group, total))
    return answers


def right_rows(evidence, marks):
    """Return all rows that are right in a case, those of walk first, without rows "ask"."""
    against = [at for at, (group, truth) in enumerate(evidence.sightings) if marks.get(group) is (not truth)]
    rows = [("wrong", indexes) for indexes in combinations(against, evidence.wrong + 1)]
    shifts = slow_shifts(marks)
    rows += [("shift", one, other) for one, other in shifts]
    if len(marks) == 2 ** evidence.size and not shifts:
        placed = [group for group in marks if marks[group]]
        family = Family(evidence.size, [group for group in placed if len(group) == max(map(len, placed))])
        answers = slow_answers(family)
        if answers:
            rows += [("quarrel", answer) for answer in answers]
        elif len(against) <= evidence.wrong:
            rows.append(("fits", family.crews))
    return rows


def slow_row(evidence, marks):
    """Return the row that walk makes in a case; if it is a row "ask", without its indexes."""
    against = [at for at, (group, truth) in enumerate(evidence.sightings) if marks.get(group) is (not truth)]
    if len(against) > evidence.wrong:
        return ("wrong", tuple(against[:evidence.wrong + 1]))
    told = [group for group, _ in evidence.sightings] + all_groups(evidence.size)
    unmarked = [group for group in told if group not in marks]
    if unmarked and not slow_shifts(marks):
        return ("ask", unmarked[0])
    return right_rows(evidence, marks)[0]


def slow_walk(evidence, begun=()):
    """Return the walk, each row found by going through the rows in the order of the document."""
    rows = []

    def go(case):
        at = len(rows)
        rows.append(None)
        row = slow_row(evidence, slow_marks(evidence.size, case))
        if row[0] == "ask":
            yes = len(rows)
            go(case + [(row[1], True)])
            no = len(rows)
            go(case + [(row[1], False)])
            row += (yes, no)
        rows[at] = row

    go(list(begun))
    return rows


def until_it_fits(rows):
    """Return how many rows of a walk settling makes."""
    return next((at + 1 for at, row in enumerate(rows) if row[0] == "fits"), len(rows))


def slow_fitting(evidence):
    """Return the crews of all families of at most five people that fit, each with an explanation."""
    found = []
    for family in all_families(evidence.size):
        placed = {part for crew in family.crews for part in parts_of(crew)}
        if sum((group in placed) is not truth for group, truth in evidence.sightings) <= evidence.wrong:
            found.append(family.crews)
    return found


def scattered(chance, expand, root):
    """Return the rows of a tree in an order drawn by chance, each behind the row that names it.

    expand returns, for a case, its row and the list of the cases that the last items of the row name.
    """
    rows, waiting = [], [(root, None, None)]
    while waiting:
        case, parent, place = waiting.pop(chance.randrange(len(waiting)))
        at = len(rows)
        if parent is not None:
            rows[parent][place] = at
        row, children = expand(case)
        rows.append(list(row) + [None] * len(children))
        waiting += [(child, at, len(row) + to) for to, child in enumerate(children)]
    return [tuple(row) for row in rows]


def spoilt(chance, thing):
    """Return thing with one place in it changed to something else, of the same kind or of another one."""
    if isinstance(thing, (list, tuple)) and thing and chance.randrange(4):
        at = chance.randrange(len(thing))
        if chance.randrange(6):
            part = [spoilt(chance, thing[at])]
        else:
            part = chance.choice([[], [thing[at], thing[at]], [thing[at], thing[0]]])
        return thing.__class__(list(thing[:at]) + part + list(thing[at + 1:]))
    choices = [chance.choice(odd_values())]
    if isinstance(thing, int):
        choices += [thing + 1, thing - 1, thing == 1, -thing, str(thing), (thing,)]
    elif isinstance(thing, tuple):
        choices += [list(thing), thing[::-1], thing[1:], thing[:-1], thing + (0,), thing + (1,), thing * 2, (thing,)]
    elif isinstance(thing, list):
        choices += [tuple(thing), thing[::-1], thing[1:], thing[:-1], thing + thing[-1:], thing * 2, [thing]]
    elif isinstance(thing, str):
        choices += ["ask", "wrong", "shift", "quarrel", "fits", "try", "family", thing.upper(), thing.encode()]
    return chance.choice(choices)
