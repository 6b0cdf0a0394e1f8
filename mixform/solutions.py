"""Solutions of equations, as far up as a least one can lie.

The equations are solved for some of the numbers; the other ones are free, and are walked through up to a bound.
"""

from mixform.rows import product


def cleared(row, place, by):
    """The row times a number, less by times another one, so that nothing is left at the place."""
    return tuple([by[place] * number - row[place] * taken for number, taken in zip(row, by)])


def settled(rows, many, right):
    """The equations solved for places of their own, or None where they go against one another.

    Told are pairs (place, equation), the equation with its goal behind its numbers: no other one has a number there.
    """
    left = [tuple(row) + (goal,) for row, goal in zip(rows, right)]
    pairs = []
    for place in range(many):
        having = [row for row in left if row[place] != 0]
        if having:
            by = having[0]
            pairs = [(own, cleared(row, place, by)) for own, row in pairs] + [(place, by)]
            left = [cleared(row, place, by) for row in left]
    if any([row[many] != 0 for row in left]):
        return None
    return pairs


def greatest(rows, right, settled_many, free_many):
    """A number that no least solution exceeds at a free place."""
    if settled_many == 0:
        return 1
    # A least solution is a mean of corners (where there is a right) and, of at most free_many edges, of each a share
    # that isn't whole (a whole edge could be taken from it); or it is just one edge. By Cramer's rule the numbers of
    # an edge are at most determinants of settled_many rows, and those of a corner such ones with the right for a
    # column. A determinant of one, two, three rows of numbers up to 1 is at most 1, 2, 4; and where four places are
    # settled, none is free.
    top = max([abs(number) for row in rows for number in row])
    goal = max([abs(number) for number in right])
    minors = (1, 2 * top, 4 * top * top, 0)
    return minors[settled_many - 1] * (goal + free_many * top)


def walked(many, free, bound):
    """All rows with numbers up to the bound at the free places, and with noughts at the other ones."""
    rows = [(0,) * many]
    for place in free:
        rows = [row[:place] + (number,) + row[place + 1:] for row in rows for number in range(bound + 1)]
    return rows


def completed(row, pairs):
    """The solution that has the row's numbers at the free places, or None where there is none."""
    whole = list(row)
    for place, equation in pairs:
        number, rest = divmod(equation[-1] - product(equation[:-1], row), equation[place])
        if rest != 0 or number < 0:
            return None
        whole[place] = number
    return tuple(whole)


def solutions(rows, many, right):
    """Solutions for the right, all the least ones among them."""
    pairs = settled(rows, many, right)
    if pairs is None:
        return []
    places = [place for place, equation in pairs]
    free = [place for place in range(many) if place not in places]
    bound = greatest(rows, right, len(places), len(free))
    found = [completed(row, pairs) for row in walked(many, free, bound)]
    return [row for row in found if row is not None]
