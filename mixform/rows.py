"""Rows of whole numbers set against equations."""


def product(one, other):
    """The numbers of two rows, place by place one times the other, added up."""
    return sum([number * factor for number, factor in zip(one, other)])


def solves(rows, row, right=None):
    """Whether a row of numbers solves the equations, for the right where one is told."""
    if right is None:
        right = [0] * len(rows)
    if any([number < 0 for number in row]):
        return False
    return all([product(equation, row) == goal for equation, goal in zip(rows, right)])
