import unittest
from itertools import product

from helper import Numbers, Refusing
from mixform.errors import TooMany
from mixform.leasts import least, least_to
from mixform.rows import solves


def rows_up_to(many, total):
    """All rows of so many numbers from 0 on whose sum is at most the total."""
    if many == 0:
        return [()]
    return [(first,) + rest for first in range(total + 1) for rest in rows_up_to(many - 1, total - first)]


WALKED = {many: rows_up_to(many, total) for many, total in enumerate((0, 60, 24, 14, 10))}


def under(one, other):
    return all(low <= high for low, high in zip(one, other))


def comes_to(rows, row):
    return tuple(sum(number * factor for number, factor in zip(equation, row)) for equation in rows)


def grown(rows, many, right, front, found):
    """The least solutions by the document's own way: rows grown by one where that brings them nearer."""
    told, found = [], list(found)
    while front:
        ready = [row for row in front if comes_to(rows, row) == right]
        told, found, after = told + ready, found + ready, {}
        for row in front:
            above = [sum_of - goal for sum_of, goal in zip(comes_to(rows, row), right)]
            for place in range(many):
                new = row[:place] + (row[place] + 1,) + row[place + 1:]
                if sum(equation[place] * far for equation, far in zip(rows, above)) < 0 and new not in after:
                    if not any(under(one, new) for one in found):
                        after[new] = True
        front = list(after)
    return sorted(told)


def made_rows(numbers, most):
    many = numbers.below(5)
    span = 1 + numbers.below(most)
    return many, [tuple(numbers.below(2 * span + 1) - span for _ in range(many)) for _ in range(numbers.below(5))]


class Walked(unittest.TestCase):
    """What is told set against all rows up to some total."""

    def check_told(self, rows, many, right, told, solutions):
        self.assertIs(type(told), list)
        self.assertEqual(told, sorted(set(told)))
        for row in told:
            self.assertIs(type(row), tuple)
            self.assertEqual(len(row), many)
            self.assertTrue(all(type(number) is int and number >= 0 for number in row))
            self.assertEqual(comes_to(rows, row), right)
            self.assertEqual([other for other in told if under(other, row)], [row])
        for row in solutions:
            self.assertTrue(any(under(one, row) for one in told), (rows, right, row, told))

    def check(self, rows, many, right):
        told = least(rows, many)
        self.assertNotIn((0,) * many, told)
        noughts = (0,) * len(rows)
        self.check_told(rows, many, noughts, told,
                        [row for row in WALKED[many] if any(row) and comes_to(rows, row) == noughts])
        told = least_to(rows, many, right)
        self.check_told(rows, many, right, told, [row for row in WALKED[many] if comes_to(rows, row) == right])

    def test_made_rows(self):
        for seed in range(400):
            numbers = Numbers(seed)
            many, rows = made_rows(numbers, 3)
            if numbers.below(2):
                right = comes_to(rows, WALKED[many][numbers.below(len(WALKED[many]))])
            else:
                right = tuple(numbers.below(9) - 4 for _ in rows)
            if all(abs(number) <= 20 for number in right):
                self.check(rows, many, right)

    def test_all_single_rows_over_one_and_two_numbers(self):
        for many in (1, 2):
            for row in product(range(-3, 4), repeat=many):
                for goal in (-20, -7, -1, 0, 1, 2, 3, 6, 19, 20):
                    self.check([row], many, (goal,))

    def test_all_small_rows_over_three_numbers(self):
        for row in product(range(-2, 3), repeat=3):
            self.check([row], 3, (row[0] + 2,))
            self.check([row, (1, -1, 0)], 3, (row[0] - row[1], 1))

    def test_pairs_of_rows_over_two_numbers(self):
        for one in product((-3, -1, 0, 2), repeat=2):
            for other in product((-2, 0, 1, 3), repeat=2):
                self.check([one, other], 2, (one[0] + one[1], other[0] + other[1]))

    def test_without_rows(self):
        for many in range(5):
            self.check([], many, ())


class Grown(unittest.TestCase):
    """What is told set against the document's own way to it."""

    def check(self, rows, many, right):
        ones = [tuple(int(at == place) for at in range(many)) for place in range(many)]
        without = grown(rows, many, (0,) * len(rows), ones, [])
        self.assertEqual(least(rows, many), without)
        self.assertEqual(least_to(rows, many, right), grown(rows, many, right, [(0,) * many], without))

    def test_made_rows(self):
        for seed in range(300):
            numbers = Numbers(1000 + seed)
            many, rows = made_rows(numbers, 2)
            self.check(rows, many, tuple(numbers.below(41) - 20 for _ in rows))

    def test_chosen_rows(self):
        self.check([(3, 3, -3, -2)], 4, (20,))
        self.check([(3, -3, 2, -2), (1, 2, -3, -1)], 4, (-20, 20))
        self.check([(3, -2, 0, 0), (0, 3, -2, 0), (0, 0, 3, -2)], 4, (1, -1, 1))
        self.check([(2, -3, 1, -3), (3, 3, -2, -2)], 4, (19, -17))
        self.check([(2, 3, -3)], 3, (-20,))
        self.check([(1, -2, 3), (3, -3, -1)], 3, (20, -20))
        self.check([(-1, -2, -3, 3)], 4, (-20,))


class Least(unittest.TestCase):
    def test_one_row(self):
        self.assertEqual(least([(1, -1)], 2), [(1, 1)])
        self.assertEqual(least([(2, -3)], 2), [(3, 2)])
        self.assertEqual(least([(1, 1, -2)], 3), [(0, 2, 1), (1, 1, 1), (2, 0, 1)])
        self.assertEqual(least([(1, 2, -3)], 3), [(0, 3, 2), (1, 1, 1), (3, 0, 1)])

    def test_several_rows(self):
        self.assertEqual(least([(1, -1, 0), (0, 1, -1)], 3), [(1, 1, 1)])
        self.assertEqual(least([(1, -1, 0, 0), (0, 0, 1, -1)], 4), [(0, 0, 1, 1), (1, 1, 0, 0)])

    def test_none(self):
        self.assertEqual(least([(1,)], 1), [])
        self.assertEqual(least([(1, 1)], 2), [])
        self.assertEqual(least([(1, -1), (1, -2)], 2), [])
        self.assertEqual(least([(1, -1, 0, 0), (2, -1, 0, 0), (0, 0, 1, 3)], 4), [])

    def test_places_without_a_number(self):
        self.assertEqual(least([(0, 0)], 2), [(0, 1), (1, 0)])
        self.assertEqual(least([(0, 1, 0)], 3), [(0, 0, 1), (1, 0, 0)])
        self.assertEqual(least([(0, 1, -2)], 3), [(0, 2, 1), (1, 0, 0)])

    def test_rows_of_noughts_and_the_same_row_several_times(self):
        wanted = least([(1, 2, -3)], 3)
        self.assertEqual(least([(0, 0, 0), (1, 2, -3), (0, 0, 0)], 3), wanted)
        self.assertEqual(least([(1, 2, -3)] * 16, 3), wanted)
        self.assertEqual(least([(-1, -2, 3), (1, 2, -3)], 3), wanted)
        self.assertEqual(least([(0, 0, 0, 0)] * 16, 4), least([], 4))

    def test_without_rows(self):
        self.assertEqual(least([], 0), [])
        self.assertEqual(least([], 1), [(1,)])
        self.assertEqual(least([], 4), [(0, 0, 0, 1), (0, 0, 1, 0), (0, 1, 0, 0), (1, 0, 0, 0)])

    def test_no_numbers(self):
        self.assertEqual(least([()], 0), [])
        self.assertEqual(least([()] * 16, 0), [])

    def test_least_ones_far_out(self):
        self.assertEqual(least([(3, -2, 0, 0), (0, 3, -2, 0), (0, 0, 3, -2)], 4), [(8, 12, 18, 27)])
        self.assertEqual(least([(3, 0, 0, -2), (-3, 3, 0, -2), (-3, -3, 3, -2)], 4), [(2, 4, 8, 3)])
        # Four rows that nearly go with one another: to grow rows by one would take millions of them.
        rows = [(2, 0, -3, 3), (3, 0, -3, 1), (-2, 1, 2, -1), (3, -2, -3, 2)]
        self.assertEqual(least(rows, 4), [])
        self.assertEqual(least([(2, -1, -3, 3), (3, 1, -3, 2), (3, 3, -2, 0)], 4), [])
        # Numbers as great as three rows can ask for, nearly.
        self.assertEqual(least([(3, 3, -2, -2), (3, -3, -3, 2), (-3, 2, -3, 3)], 4), [(65, 57, 78, 105)])


class LeastTo(unittest.TestCase):
    def test_one_row(self):
        self.assertEqual(least_to([(1, -1)], 2, (3,)), [(3, 0)])
        self.assertEqual(least_to([(1, -1)], 2, (-3,)), [(0, 3)])
        self.assertEqual(least_to([(2, -3)], 2, (1,)), [(2, 1)])
        self.assertEqual(least_to([(1, 1)], 2, (2,)), [(0, 2), (1, 1), (2, 0)])
        self.assertEqual(least_to([(1, 2, -1)], 3, (2,)), [(0, 1, 0), (2, 0, 0)])

    def test_none(self):
        self.assertEqual(least_to([(2,)], 1, (3,)), [])
        self.assertEqual(least_to([(1, 1)], 2, (-1,)), [])
        self.assertEqual(least_to([(2, -2)], 2, (1,)), [])
        self.assertEqual(least_to([(0, 0)], 2, (1,)), [])
        self.assertEqual(least_to([(1, -1), (1, -1)], 2, (1, 2)), [])

    def test_a_right_of_noughts(self):
        for many in range(5):
            for rows in ([], [(0,) * many], [(1,) * many], [(1, -1, 2, -2)[:many], (3, 0, 0, -1)[:many]]):
                self.assertEqual(least_to(rows, many, (0,) * len(rows)), [(0,) * many])

    def test_rows_of_noughts_and_the_same_row_several_times(self):
        wanted = least_to([(1, 2, -3)], 3, (2,))
        self.assertEqual(least_to([(0, 0, 0), (1, 2, -3), (0, 0, 0)], 3, (0, 2, 0)), wanted)
        self.assertEqual(least_to([(1, 2, -3)] * 16, 3, (2,) * 16), wanted)
        self.assertEqual(least_to([(1, 2, -3)] * 2, 3, (2, 1)), [])
        self.assertEqual(least_to([(1, 2, -3), (0, 0, 0)], 3, (2, 1)), [])
        self.assertEqual(least_to([(-1, -2, 3), (1, 2, -3)], 3, (-2, 2)), wanted)

    def test_no_numbers(self):
        self.assertEqual(least_to([], 0, ()), [()])
        self.assertEqual(least_to([()], 0, (0,)), [()])
        self.assertEqual(least_to([()], 0, (1,)), [])
        self.assertEqual(least_to([(), ()], 0, (0, -20)), [])
        self.assertEqual(least_to([()] * 16, 0, (0,) * 16), [()])

    def test_all_rows_of_one_sum(self):
        wanted = [row for row in rows_up_to(4, 20) if sum(row) == 20]
        self.assertEqual(len(wanted), 1771)
        self.assertEqual(least_to([(1, 1, 1, 1)], 4, (20,)), wanted)
        self.assertEqual(least_to([(-1, -1, -1, -1)], 4, (-20,)), wanted)
        self.assertEqual(least_to([(-1, -1, -1, -1)], 4, (20,)), [])

    def test_least_ones_far_out(self):
        rows = [(0, -2, -1, 2), (-2, 3, 0, 0), (3, 1, -3, -1), (0, 1, 3, -3)]
        self.assertEqual(least_to(rows, 4, (-20, -19, -20, -19)), [(1565, 1037, 1350, 1702)])
        rows = [(3, -3, 1, -2), (3, -2, -3, -1), (-2, -3, 2, 2), (-2, -1, -3, 3)]
        self.assertEqual(least_to(rows, 4, (-19, 20, 19, 20)), [(1887, 667, 705, 2192)])

    def test_each_solution_is_a_least_one_and_one_without_a_right(self):
        for seed in range(60):
            numbers = Numbers(5000 + seed)
            many, rows = made_rows(numbers, 3)
            right = comes_to(rows, WALKED[many][numbers.below(len(WALKED[many]))])
            if any(abs(number) > 20 for number in right):
                continue
            told = least_to(rows, many, right)
            for row in WALKED[many]:
                if comes_to(rows, row) == right:
                    rests = [tuple(high - low for low, high in zip(one, row)) for one in told]
                    self.assertTrue(any(solves(rows, rest) for rest in rests))


class Bounds(Refusing):
    def both_refused(self, rows, many):
        self.refused(TooMany, least, rows, many)
        self.refused(TooMany, least_to, rows, many, (0,) * len(rows))

    def both_taken(self, rows, many):
        self.assertIs(type(least(rows, many)), list)
        self.assertEqual(least_to(rows, many, (0,) * len(rows)), [(0,) * many])

    def test_rows(self):
        for row in ((1, -1), (0, 0), ()):
            self.both_taken([row] * 16, len(row))
            self.both_refused([row] * 17, len(row))
            self.both_refused(tuple([row] * 17), len(row))
            self.both_refused([row] * 40, len(row))

    def test_many(self):
        for rows in (0, 1, 3):
            self.both_taken([(1, 0, -1, 0)] * rows, 4)
            self.both_refused([(1, 0, -1, 0, 0)] * rows, 5)
            self.both_refused([(0,) * 9] * rows, 9)

    def test_numbers(self):
        self.both_taken([(3, -3)], 2)
        for number in (4, -4, 5, -100, 10 ** 18):
            self.both_refused([(number,)], 1)
            self.both_refused([(1, 0, -1), (0, 0, number)], 3)
            self.both_refused([(number, 0, -1, 0), (0, 0, 1, 0)], 4)

    def test_rights(self):
        self.assertEqual(least_to([(1, -1)], 2, (20,)), [(20, 0)])
        self.assertEqual(least_to([(1, -1)], 2, (-20,)), [(0, 20)])
        self.assertEqual(least_to([(3,), (3,)], 1, (20, 20)), [])
        for number in (21, -21, 22, -1000, 10 ** 18):
            self.refused(TooMany, least_to, [(1, -1)], 2, (number,))
            self.refused(TooMany, least_to, [(1, -1), (0, 0)], 2, (0, number))
            self.refused(TooMany, least_to, [(1, -1), (0, 0)], 2, (number, 1))
            self.refused(TooMany, least_to, [()], 0, (number,))
            self.refused(TooMany, least_to, [(1, -1), (1, -1)], 2, (1, number))

    def test_two_at_once(self):
        self.both_refused([(4,) * 5] * 17, 5)
        self.both_refused([(4, 0)] * 17, 2)
        self.both_refused([(0, 0, 0, 0, -4)], 5)
        self.refused(TooMany, least_to, [(4, 1)], 2, (21,))
        self.refused(TooMany, least_to, [(1, 1)] * 17, 2, (21,) * 17)
        self.refused(TooMany, least_to, [(1, 1, 1, 1, 1)], 5, (-21,))


class Kept(unittest.TestCase):
    def test_lists_and_tuples(self):
        rows = [(1, -2, 0), (0, 1, -1)]
        self.assertEqual(least(tuple(rows), 3), least(rows, 3))
        self.assertEqual(least_to(tuple(rows), 3, (1, 2)), least_to(rows, 3, (1, 2)))
        self.assertEqual(least((), 2), [(0, 1), (1, 0)])
        self.assertEqual(least_to((), 2, ()), [(0, 0)])

    def test_what_is_handed_in_stays(self):
        rows = [(1, -2, 0), (0, 1, -1)]
        least(rows, 3)
        least_to(rows, 3, (1, 2))
        self.assertEqual(rows, [(1, -2, 0), (0, 1, -1)])

    def test_what_was_told_may_be_changed(self):
        rows = [(1, 1, -2)]
        told, told_to = least(rows, 3), least_to(rows, 3, (2,))
        before = list(told), list(told_to)
        told.clear()
        told_to[0] = None
        told_to.append(7)
        self.assertEqual((least(rows, 3), least_to(rows, 3, (2,))), before)


if __name__ == "__main__":
    unittest.main()
