"""The least solutions of equations, and solutions shared out among them."""

from mixform.errors import NoRow, TooMany
from mixform.rows import solves
from mixform.solutions import solutions

MOST_ROWS = 16
MOST_MANY = 4
MOST_NUMBER = 3
MOST_RIGHT = 20


def check_bounds(rows, many, right):
    """Refuses equations that lie beyond the document's bounds."""
    if len(rows) > MOST_ROWS:
        raise TooMany(f"more than {MOST_ROWS} rows")
    if many > MOST_MANY:
        raise TooMany(f"more than {MOST_MANY} unknown numbers")
    if any([abs(number) > MOST_NUMBER for row in rows for number in row]):
        raise TooMany(f"a row's number lies beyond {MOST_NUMBER}")
    if any([abs(number) > MOST_RIGHT for number in right]):
        raise TooMany(f"a number of the right lies beyond {MOST_RIGHT}")


def lies_under(one, other):
    """Whether each number of one is at most the other's."""
    for low, high in zip(one, other):
        if low > high:
            return False
    return True


def lies_over(row, found):
    """Whether one of the rows found lies under the row."""
    for one in found:
        if lies_under(one, row):
            return True
    return False


def least(rows, many):
    """The least solutions without a right, sorted."""
    check_bounds(rows, many, ())
    found = []
    # What lies under a row stands ahead of it where they are sorted.
    for row in sorted(solutions(rows, many, (0,) * len(rows))):
        if sum(row) > 0 and not lies_over(row, found):
            found.append(row)
    return found


def least_to(rows, many, right):
    """The least solutions for a right, sorted."""
    check_bounds(rows, many, right)
    # One solution for the right lies under another one just where a solution without a right can be taken from that.
    taken = least(rows, many)
    return sorted([row for row in solutions(rows, many, right) if not lies_over(row, taken)])


def shares(rows, row):
    """Pairs (least, times) that come to the solution, added up."""
    many = len(row)
    check_bounds(rows, max([many] + [len(equation) for equation in rows]), ())
    if any([len(equation) != many for equation in rows]) or not solves(rows, row):
        raise NoRow("the row is no solution")
    left = row
    pairs = []
    # What is left is a solution under which, at the end, no least one lies: so it is noughts.
    for one in least(rows, many):
        count = min([number // part for number, part in zip(left, one) if part > 0])
        if count > 0:
            pairs.append((one, count))
            left = tuple([number - count * part for number, part in zip(left, one)])
    return pairs
