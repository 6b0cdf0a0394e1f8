"""Ways: forms put in for unknowns.

A way is a tuple of pairs (name, form), sorted, each name once.
"""

from mixform.errors import TooMany
from mixform.forms import gathered, times
from mixform.measures import spread

MOST_SPREAD = 2000


def just(name):
    """The form of an unknown, once."""
    return ((("any", name), 1),)


def has(way, name):
    """What a way has for a name: just that unknown where it lacks the name."""
    for own, form in way:
        if own == name:
            return form
    return just(name)


def put(form, way):
    """The form with the way's unknowns replaced at any depth, all at once."""
    return put_up_to(form, way, MOST_SPREAD)


def put_up_to(form, way, most):
    """What put tells, refused where its spread is above most; None for most is no bound."""
    pairs = []
    for item, count in form:
        pairs.extend(times(count, put_item(item, way, most)))
    whole = gathered(pairs)
    # Asked of each part too: a part above the bound lies within a whole above it, and needn't be gone on with.
    if most is not None and spread(whole) > most:
        raise TooMany(f"the form that comes has a spread above {most}")
    return whole


def put_item(item, way, most):
    """What stands for an item once, as a form."""
    if item[0] == "any":
        return has(way, item[1])
    parts = tuple([put_up_to(part, way, most) for part in item[2]])
    return ((("of", item[1], parts), 1),)


def chained(one, other):
    """The way that puts in what one and then other puts in, with the names of both."""
    names = sorted(set([name for name, form in one + other]))
    return tuple([(name, put(has(one, name), other)) for name in names])


def cut(way, names):
    """The way's pairs for some names, without those that leave their unknown as it is."""
    return tuple([(name, form) for name, form in way if name in names and form != just(name)])
