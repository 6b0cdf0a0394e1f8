"""Terms are brought to their one form; forms are added, taken so many times, and taken from one another.

A term is ("any", name), ("of", sign, parts) or ("mix", parts). A form is a tuple of pairs (item, count),
sorted by the items, each item once; an item is ("any", name) or ("of", sign, forms).
"""


def parts_of(item):
    """The forms that are an item's parts: none for an unknown."""
    if item[0] == "of":
        return item[2]
    return ()


def gathered(pairs):
    """The pairs (item, count) sorted by the items, with the counts of each item added up."""
    # Things may stand deep in one another, too deep for keys of a dict: so equal items are found as neighbours.
    whole = []
    for item, count in sorted(pairs):
        if whole and whole[-1][0] == item:
            whole[-1] = (item, whole[-1][1] + count)
        else:
            whole.append((item, count))
    return tuple(whole)


def pairs_of(term):
    """A pair (item, 1) for each item that stands in the term's mix, as often as it stands there."""
    if term[0] == "any":
        return [(term, 1)]
    if term[0] == "of":
        forms = tuple([form_of(part) for part in term[2]])
        return [(("of", term[1], forms), 1)]
    pairs = []
    for part in term[1]:
        pairs.extend(pairs_of(part))
    return pairs


def form_of(term):
    """The one form of a term, however its mixes are ordered and grouped."""
    return gathered(pairs_of(term))


def same(one, other):
    """Whether two terms have equal forms."""
    return form_of(one) == form_of(other)


def plus(one, other):
    """Two forms added item by item."""
    return gathered(one + other)


def times(number, form):
    """A form taken so many times, from 0 on."""
    if number == 0:
        return ()
    return tuple([(item, number * count) for item, count in form])


def less(one, other):
    """What is left of one when other is taken from it, or None where other has an item more often."""
    taken = tuple([(item, -count) for item, count in other])
    left = gathered(one + taken)
    if any([count < 0 for item, count in left]):
        return None
    return tuple([(item, count) for item, count in left if count > 0])
