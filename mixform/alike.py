"""Two forms made alike: the ways of all partings' choices without rounds, made few."""

from mixform.choices import choices, way_of
from mixform.compare import few
from mixform.errors import TooMany
from mixform.forms import parts_of
from mixform.measures import size, unknowns
from mixform.partings import names_of, partings, things_of

MOST_NAMES = 4
MOST_THINGS = 6
MOST_COUNT = 3
MOST_CHOICES = 24
MOST_SIZE = 60
MOST_UNKNOWNS = 12


def alike(one, other):
    """Ways that make the two forms one form, of which each such way is an image, and none is an image of another."""
    return few(all_ways(one, other), names_of(one, other))


def all_ways(one, other):
    """The ways of all choices without rounds; refused where the two forms or such a way lie beyond a bound."""
    check_forms(one, other)
    found = []
    for parting, choice in all_choices(one, other):
        way = way_of(parting, choice, one, other)
        if way is not None:
            check_way(way)
            found.append(way)
    return found


def all_choices(one, other):
    """Pairs (parting, choice) of all partings."""
    pairs = []
    for parting in partings(things_of(one, other)):
        pairs.extend([(parting, choice) for choice in choices(parting, one, other)])
        if len(pairs) > MOST_CHOICES:
            raise TooMany(f"more than {MOST_CHOICES} choices")
    return pairs


def check_forms(one, other):
    """Refuses two forms that lie beyond the document's bounds."""
    if len(names_of(one, other)) > MOST_NAMES:
        raise TooMany(f"more than {MOST_NAMES} names")
    if len(things_of(one, other)) > MOST_THINGS:
        raise TooMany(f"more than {MOST_THINGS} things")
    if max(greatest_count(one), greatest_count(other)) > MOST_COUNT:
        raise TooMany(f"a count above {MOST_COUNT}")


def greatest_count(form):
    """The greatest count of a form at any depth, 0 for nothing."""
    counts = [count for item, count in form]
    inner = [greatest_count(part) for item, count in form for part in parts_of(item)]
    return max(counts + inner, default=0)


def check_way(way):
    """Refuses a way whose forms together lie beyond the document's bounds."""
    if sum([size(form) for name, form in way]) > MOST_SIZE:
        raise TooMany(f"a way of a size above {MOST_SIZE}")
    if len(set([name for own, form in way for name in unknowns(form)])) > MOST_UNKNOWNS:
        raise TooMany(f"a way of more than {MOST_UNKNOWNS} unknowns")
