"""How great and how deep a form is, and what stands in it at any depth."""

from mixform.forms import parts_of


def size(form):
    """Added up over the items: the count times (1 and the sizes of the item's parts)."""
    return sum([count * (1 + sum([size(part) for part in parts_of(item)])) for item, count in form])


def spread(form):
    """Like the size, but with 1 for each count."""
    return sum([1 + sum([spread(part) for part in parts_of(item)]) for item, count in form])


def depth(form):
    """0 without things, else 1 more than the greatest depth of the things' parts."""
    tops = [item for item, count in form if item[0] == "of"]
    if not tops:
        return 0
    return 1 + max([depth(part) for item in tops for part in item[2]], default=0)


def items_within(form):
    """The items of a form at any depth, an item again for each place where it stands."""
    found = []
    for item, count in form:
        found.append(item)
        for part in parts_of(item):
            found.extend(items_within(part))
    return found


def unknowns(form):
    """The names of the unknowns at any depth, sorted, each once."""
    names = [item[1] for item in items_within(form) if item[0] == "any"]
    return tuple(sorted(set(names)))


def things_among(items):
    """The items that are no unknowns, sorted, each once."""
    found = sorted([item for item in items if item[0] == "of"])
    # Sorted, equal things are neighbours; a set can't hold things that stand so deep in one another.
    return tuple([item for at, item in enumerate(found) if at == 0 or found[at - 1] != item])


def things(form):
    """The items at any depth that are no unknowns, sorted, each once."""
    return things_among(items_within(form))
