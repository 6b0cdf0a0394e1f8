"""The names and the things of two forms, and the partings of things into classes of one kind."""

from mixform.errors import TooMany
from mixform.measures import items_within, things_among, unknowns

MOST_THINGS = 8
MOST_PARTINGS = 15


def names_of(one, other):
    """The unknowns of two forms, sorted, each once."""
    return tuple(sorted(set(unknowns(one) + unknowns(other))))


def things_of(one, other):
    """The things of two forms at any depth, sorted, each once."""
    return things_among(items_within(one) + items_within(other))


def of_one_kind(one, other):
    """Whether two things have one sign and as many parts."""
    return one[1] == other[1] and len(one[2]) == len(other[2])


def grown(parting, thing):
    """The partings that come where the thing goes into one of the classes, or into one of its own."""
    found = [parting + ((thing,),)]
    for at, group in enumerate(parting):
        if of_one_kind(group[0], thing):
            found.append(parting[:at] + (group + (thing,),) + parting[at + 1:])
    return found


def partings(things):
    """All partings of things (which are sorted, each once), sorted."""
    if len(things) > MOST_THINGS:
        raise TooMany(f"more than {MOST_THINGS} things")
    found = [()]
    for thing in things:
        found = [more for parting in found for more in grown(parting, thing)]
        # Each parting of the first things goes on to one at least of all: so there will be no fewer.
        if len(found) > MOST_PARTINGS:
            raise TooMany(f"more than {MOST_PARTINGS} partings")
    return sorted([tuple(sorted(parting)) for parting in found])
