"""Ways set against one another: whether one is an image of another, and which of a list are enough."""

from mixform.matches import ways_for
from mixform.ways import has


def further(one, other, names):
    """A way that makes what one has for each of the names what other has for it, or None."""
    found = ways_for([(has(one, name), has(other, name)) for name in names], 1)
    if not found:
        return None
    return found[0]


def is_image(way, ways, names):
    """Whether a way is an image of one of the ways."""
    for one in ways:
        if further(one, way, names) is not None:
            return True
    return False


def few(ways, names):
    """The ways without those that are images of others, in their order."""
    left = []
    for way in ways:
        # An image of an image is an image: so what is left out for a way's sake stays so if that way itself goes.
        if not is_image(way, left, names):
            left = [one for one in left if not is_image(one, [way], names)] + [way]
    return left
