"""The bonds of a parting, its choices of least solutions, their rounds and their ways.

Where things of one class are to become equal, their parts are to become so, too: these are the bonds.
"""

from mixform.errors import TooMany
from mixform.forms import plus, times
from mixform.leasts import check_bounds, least, least_to
from mixform.partings import names_of
from mixform.ways import put_up_to

MOST_CHOICES = 1000
LETTERS = "abcdefghijklmnopqrstuvwxyz"


def bonds(parting, one, other):
    """The pairs of forms that are to become equal: the two forms, and the parts of each class's things."""
    found = [(one, other)]
    for group in parting:
        for thing in group[1:]:
            found.extend(list(zip(group[0][2], thing[2])))
    return found


def count_at_top(form, item):
    """How often an item stands at the top of a form."""
    return sum([count for own, count in form if own == item])


def equations(bonded, names):
    """For each bond a row: of each name the count in the first form less that in the second."""
    tops = [("any", name) for name in names]
    return [tuple([count_at_top(one, item) - count_at_top(other, item) for item in tops]) for one, other in bonded]


def right_of(bonded, group):
    """For each bond the count of the class's things in the second form less that in the first."""
    found = []
    for one, other in bonded:
        found.append(sum([count_at_top(other, thing) - count_at_top(one, thing) for thing in group]))
    return tuple(found)


def solutions_by_class(parting, one, other):
    """For each class the least solutions for its right."""
    names = names_of(one, other)
    bonded = bonds(parting, one, other)
    rows = equations(bonded, names)
    # Where there is no class, no solution is asked for, and yet the equations may be refused.
    check_bounds(rows, len(names), ())
    return [least_to(rows, len(names), right_of(bonded, group)) for group in parting]


def choices(parting, one, other):
    """All tuples with a least solution for each class, sorted."""
    by_class = solutions_by_class(parting, one, other)
    many = 1
    for rows in by_class:
        many *= len(rows)
    if many > MOST_CHOICES:
        raise TooMany(f"more than {MOST_CHOICES} choices")
    if many == 0:
        return []
    found = [()]
    for rows in by_class:
        found = [choice + (row,) for choice in found for row in rows]
    return found


def steps_of(parting, choice, names):
    """For each class number and each name, the class numbers and names that it leads to."""
    steps = {}
    for at, group in enumerate(parting):
        tops = [item for thing in group for part in thing[2] for item, count in part]
        inner = [to for to, other in enumerate(parting) if any([thing in tops for thing in other])]
        steps[at] = inner + [name for name in names if ("any", name) in tops]
    for place, name in enumerate(names):
        steps[name] = [at for at, row in enumerate(choice) if row[place] > 0]
    return steps


def way_back(steps, start):
    """A shortest round from the start, or None."""
    seen = {start}
    paths = [(start,)]
    while paths:
        longer = []
        for path in paths:
            for step in steps[path[-1]]:
                if step == start:
                    return path
                if step not in seen:
                    seen.add(step)
                    longer.append(path + (step,))
        paths = longer
    return None


def round_of(parting, choice, names):
    """A round of the choice, or None."""
    steps = steps_of(parting, choice, names)
    # From a name one comes to classes alone, so each round goes through a class.
    for at in range(len(parting)):
        found = way_back(steps, at)
        if found is not None:
            return found
    return None


def is_round(steps, found):
    """Whether a tuple of class numbers and names goes round by the steps, through none twice."""
    if len(found) == 0 or len(set(found)) < len(found):
        return False
    return all([step in steps.get(found[at - 1], ()) for at, step in enumerate(found)])


def new_names(many, names):
    """So many names that are none of the names."""
    words = list(LETTERS) + [first + second for first in LETTERS for second in LETTERS]
    return [word for word in words if word not in names][:many]


def way_of(parting, choice, one, other):
    """The way of a choice, or None where the choice has a round."""
    names = names_of(one, other)
    if round_of(parting, choice, names) is not None:
        return None
    free = least(equations(bonds(parting, one, other), names), len(names))
    pairs = list(zip([group[0] for group in parting], choice))
    pairs += list(zip([("any", name) for name in new_names(len(free), names)], free))
    first = [(name, items_at(pairs, place)) for place, name in enumerate(names)]
    way = first
    # Without a round no name comes back to itself: put in once for each name, none is left.
    for step in names:
        way = [(name, put_up_to(form, first, None)) for name, form in way]
    return tuple(way)


def items_at(pairs, place):
    """The sum of the items of pairs (item, row), each so many times as its row tells at the place."""
    form = ()
    for item, row in pairs:
        form = plus(form, times(row[place], ((item, 1),)))
    return form
