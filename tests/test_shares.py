import unittest

from helper import Numbers
from mixform.errors import MixError, NoRow, TooMany
from mixform.leasts import least, shares

GREAT = 10 ** 18


class Shares(unittest.TestCase):
    def check(self, rows, row):
        """Fails where what is told are no shares of the row."""
        told = shares(rows, row)
        self.assertIs(type(told), list)
        leasts = least(rows, len(row))
        for pair in told:
            self.assertIs(type(pair), tuple)
            one, count = pair
            self.assertIn(one, leasts)
            self.assertIs(type(one), tuple)
            self.assertIs(type(count), int)
            self.assertGreaterEqual(count, 1)
        self.assertEqual(len({one for one, _ in told}), len(told))
        whole = tuple(sum(one[at] * count for one, count in told) for at in range(len(row)))
        self.assertEqual(whole, tuple(row))

    def test_a_least_one(self):
        self.assertEqual(shares([(2, -3)], (3, 2)), [((3, 2), 1)])
        self.assertEqual(shares([(2, -3)], (12, 8)), [((3, 2), 4)])
        self.assertEqual(sorted(shares([(1, -1, 0)], (2, 2, 5))), [((0, 0, 1), 5), ((1, 1, 0), 2)])

    def test_sums_of_least_ones(self):
        for rows, many in (([(1, 2, -3)], 3), ([(1, 1, -1, -1)], 4), ([(3, -2, 1, -3), (1, 1, -1, -1)], 4),
                           ([(2, -3)], 2), ([], 3), ([(0, 0)], 2), ([(1, -1, 0, 0)] * 16, 4), ([(3, 2, -3, -2)], 4)):
            leasts = least(rows, many)
            self.assertTrue(leasts)
            for seed in range(40):
                numbers = Numbers(seed)
                bound = (2, 5, 1000, 10 ** 14)[seed % 4]
                counts = [numbers.below(bound + 1) if numbers.below(3) else bound for _ in leasts]
                row = tuple(sum(one[at] * count for one, count in zip(leasts, counts)) for at in range(many))
                self.check(rows, row)

    def test_great_numbers(self):
        self.check([(1, -1)], (GREAT, GREAT))
        self.check([(1, 1, -2)], (GREAT, GREAT, GREAT))
        self.check([(1, 1, -2)], (1, GREAT - 1, GREAT // 2))
        self.check([], (GREAT, 0, 1, GREAT - 1))

    def test_noughts(self):
        for many in range(5):
            self.assertEqual(shares([], (0,) * many), [])
            self.assertEqual(shares([(1, -1, 2, -3)[:many]], (0,) * many), [])
            self.assertEqual(shares([(1, 1, 2, 3)[:many]] * 3, (0,) * many), [])

    def test_without_equations(self):
        self.assertEqual(sorted(shares([], (3, 0, 2))), [((0, 0, 1), 2), ((1, 0, 0), 3)])
        self.check([], (7, 1, 1, 5))
        self.check((), (7,))

    def test_all_small_solutions(self):
        rows = [(1, 2, -2, -1), (1, -1, 1, -1)]
        found = 0
        for at in range(6 ** 4):
            row = (at % 6, at // 6 % 6, at // 36 % 6, at // 216)
            if all(sum(number * factor for number, factor in zip(row, equation)) == 0 for equation in rows):
                found += 1
                self.check(rows, row)
        self.assertGreater(found, 10)

    def test_lists_and_tuples(self):
        self.assertEqual(shares(((2, -3),), (12, 8)), shares([(2, -3)], (12, 8)))

    def test_what_is_handed_in_stays(self):
        rows = [(1, -1, 0)]
        shares(rows, (2, 2, 5))
        self.assertEqual(rows, [(1, -1, 0)])

    def test_what_was_told_may_be_changed(self):
        told = shares([(1, -1, 0)], (2, 2, 5))
        before = list(told)
        told[0] = None
        told.append(7)
        self.assertEqual(shares([(1, -1, 0)], (2, 2, 5)), before)


class Refused(unittest.TestCase):
    def refused(self, refusal, rows, row):
        for error in (refusal, MixError, ValueError):
            with self.assertRaises(error, msg=repr((rows, row))) as caught:
                shares(rows, row)
            self.assertIs(type(caught.exception), refusal)

    def test_no_solution(self):
        self.refused(NoRow, [(1, -1)], (1, 2))
        self.refused(NoRow, [(1, -1)], (GREAT, GREAT - 1))
        self.refused(NoRow, [(1, -1, 0), (0, 1, -1)], (1, 1, 2))
        self.refused(NoRow, [(1, -1, 0), (0, 1, -1)], (2, 1, 1))
        self.refused(NoRow, [(1,)], (1,))

    def test_a_number_below_nought(self):
        self.refused(NoRow, [(1, 1)], (1, -1))
        self.refused(NoRow, [(1, -1)], (-1, -1))
        self.refused(NoRow, [], (0, -1))
        self.refused(NoRow, [(0, 0)], (5, -GREAT))
        self.refused(NoRow, [(1, -1)], (-GREAT, -GREAT))

    def test_longer_or_shorter(self):
        self.refused(NoRow, [(1, -1)], (1, 1, 0))
        self.refused(NoRow, [(1, -1)], (1, 1, 1))
        self.refused(NoRow, [(1, -1, 0)], (1, 1))
        self.refused(NoRow, [(1, -1, 0)], ())
        self.refused(NoRow, [()], (0,))
        self.refused(NoRow, [()], (1, 1, 1, 1))
        self.refused(NoRow, [(0, 0)], (0,))
        self.refused(NoRow, [(0, 0)], (0, 0, 0))

    def test_more_than_four_numbers(self):
        self.assertEqual(shares([(1, -1, 0, 0)], (1, 1, 0, 0)), [((1, 1, 0, 0), 1)])
        self.refused(TooMany, [(1, -1, 0, 0, 0)], (1, 1, 0, 0, 0))
        self.refused(TooMany, [(1, -1, 0, 0, 0)], (1, 2, 0, 0, 0))
        self.refused(TooMany, [], (0,) * 5)
        self.refused(TooMany, [], (1, 1, 1, 1, -1))
        self.refused(TooMany, [(1, -1)], (1, 1, 0, 0, 0))
        self.refused(TooMany, [(1, -1)], (1, 2, 0, 0, 0, 0))
        self.refused(TooMany, [(1, -1, 0, 0, 0)], (1, 1))
        self.refused(TooMany, [(1, -1, 0, 0, 0)], ())

    def test_more_than_sixteen_rows(self):
        self.assertEqual(shares([(1, -1)] * 16, (2, 2)), [((1, 1), 2)])
        self.refused(TooMany, [(1, -1)] * 17, (2, 2))
        self.refused(TooMany, [(1, -1)] * 17, (2, 1))
        self.refused(TooMany, [(1, -1)] * 17, (2, 2, 2))
        self.refused(TooMany, [()] * 17, ())
        self.refused(TooMany, tuple([(1, -1)] * 17), (-1, 2))

    def test_numbers_beyond_the_bound(self):
        self.assertEqual(shares([(3, -3)], (2, 2)), [((1, 1), 2)])
        for number in (4, -4, 100):
            self.refused(TooMany, [(number, -number)], (1, 1))
            self.refused(TooMany, [(number, 0)], (1, 1))
            self.refused(TooMany, [(1, -1), (0, number)], (0, 0))
            self.refused(TooMany, [(1, -1), (number, 0)], (-1, 0))
            self.refused(TooMany, [(1, -1), (number, 0)], (1,))

    def test_two_at_once(self):
        self.refused(TooMany, [(4,) * 5] * 17, (0,) * 5)
        self.refused(TooMany, [(4, 0)], (0,) * 5)


if __name__ == "__main__":
    unittest.main()
