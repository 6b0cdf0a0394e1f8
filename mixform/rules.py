"""Rules, and their uses at any place of a form.

A rule is a tuple (left, right) of forms. A place is a tuple of pairs (item, part) that leads from a form to a part
of a part and so on.
"""

from mixform.errors import NoRule, TooMany
from mixform.forms import less, plus
from mixform.matches import matches
from mixform.measures import size, unknowns
from mixform.ways import has, just, put

MOST_SIZE = 10
MOST_UNKNOWNS = 2
MOST_USES = 300


def rule(left, right):
    """The rule of two forms, or NoRule."""
    if left == ():
        raise NoRule("the left is nothing")
    if any([name not in unknowns(left) for name in unknowns(right)]):
        raise NoRule("the right has an unknown that the left lacks")
    return left, right


def form_at(form, place):
    """The form at a place in a form."""
    found = form
    for item, part in place:
        found = item[2][part]
    return found


def places(form):
    """All places in a form."""
    found = [()]
    for item, count in form:
        if item[0] == "of":
            for number, part in enumerate(item[2]):
                found.extend([((item, number),) + place for place in places(part)])
    return found


def with_form_at(form, place, new):
    """The form with a new form at a place; of each item gone through on the way there just one is changed."""
    if not place:
        return new
    item, number = place[0]
    part = with_form_at(item[2][number], place[1:], new)
    changed = ("of", item[1], item[2][:number] + (part,) + item[2][number + 1:])
    return plus(less(form, ((item, 1),)), ((changed, 1),))


def spare_name(form):
    """A name of an unknown that a form lacks, for the rest."""
    name = "r"
    while name in unknowns(form):
        name += "r"
    return name


def uses_at(one, form, place):
    """The uses of a rule at one place of a form."""
    left, right = one
    spare = spare_name(left)
    found = []
    # What the left isn't about is what one more unknown beside it takes.
    for match in matches(plus(left, just(spare)), form_at(form, place), MOST_USES):
        way = tuple([(name, own) for name, own in match if name != spare])
        rest = has(match, spare)
        found.append((place, way, rest, with_form_at(form, place, plus(put(right, way), rest))))
    return found


def uses(one, form):
    """All uses of a rule on a form, sorted."""
    if size(form) > MOST_SIZE:
        raise TooMany(f"the form has a size above {MOST_SIZE}")
    if len(unknowns(one[0])) > MOST_UNKNOWNS:
        raise TooMany(f"the left has more than {MOST_UNKNOWNS} unknowns")
    found = []
    for place in places(form):
        found.extend(uses_at(one, form, place))
        if len(found) > MOST_USES:
            raise TooMany(f"there are more than {MOST_USES} uses")
    return sorted(found)
