import unittest

from mixform.rows import solves

GREAT = 10 ** 18


class Solves(unittest.TestCase):
    ROWS = [(1, -1, 0), (2, 0, -1)]

    def told(self, wanted, *asked):
        self.assertIs(solves(*asked), wanted)

    def test_without_a_right(self):
        self.told(True, self.ROWS, (1, 1, 2))
        self.told(True, self.ROWS, (5, 5, 10))
        self.told(True, self.ROWS, (0, 0, 0))
        self.told(False, self.ROWS, (1, 1, 1))
        self.told(False, self.ROWS, (1, 0, 2))
        self.told(False, self.ROWS, (0, 0, 1))

    def test_each_row_is_asked(self):
        self.told(True, [(1, -1)], (3, 3))
        self.told(False, [(1, -1), (1, -2)], (3, 3))
        self.told(False, [(1, -2), (1, -1)], (3, 3))
        self.told(False, [(0, 0), (1, -1), (0, 0)], (3, 2))

    def test_with_a_right(self):
        self.told(True, self.ROWS, (3, 1, 2), (2, 4))
        self.told(False, self.ROWS, (3, 1, 2), (2, 3))
        self.told(False, self.ROWS, (3, 1, 2), (1, 4))
        self.told(False, self.ROWS, (3, 1, 2), (0, 0))
        self.told(True, self.ROWS, (0, 2, 3), (-2, -3))
        self.told(True, self.ROWS, (1, 1, 2), (0, 0))
        self.told(False, self.ROWS, (0, 0, 0), (0, 1))

    def test_none_for_a_right_is_without_one(self):
        self.told(True, self.ROWS, (1, 1, 2), None)
        self.assertIs(solves(self.ROWS, (3, 1, 2), right=(2, 4)), True)
        self.assertIs(solves(rows=self.ROWS, row=(1, 1, 2)), True)

    def test_without_rows(self):
        self.told(True, [], (0, 7, 2))
        self.told(True, [], ())
        self.told(True, [], (1,), ())
        self.told(False, [], (0, -1))
        self.told(False, [], (-1,), ())

    def test_over_no_numbers(self):
        self.told(True, [()], ())
        self.told(True, [(), ()], (), (0, 0))
        self.told(False, [(), ()], (), (0, 1))
        self.told(False, [()], (), (-1,))

    def test_a_number_below_nought(self):
        self.told(False, [(1, 1)], (-1, 1))
        self.told(False, [(1, 1)], (1, -1))
        self.told(False, [(0, 0)], (0, -1))
        self.told(False, [(1, 1)], (-1, 3), (2,))
        self.told(True, [(1, 1)], (0, 2), (2,))
        self.told(False, [(1, -1)], (-GREAT, -GREAT))

    def test_great_numbers(self):
        self.told(True, [(1, -1, 0)], (GREAT, GREAT, 5))
        self.told(False, [(1, -1, 0)], (GREAT, GREAT - 1, 5))
        self.told(True, [(3, -3, 0)], (GREAT, GREAT - 1, 5), (3,))
        self.told(True, [(GREAT, -1)], (GREAT, GREAT ** 2))
        self.told(False, [(GREAT, -1)], (GREAT, GREAT ** 2 + 1))
        self.told(True, [(1, 1)], (GREAT, GREAT), (2 * GREAT,))

    def test_it_refuses_nothing(self):
        self.told(True, [(1, -1, 0, 0, 0, 4)] * 40, (9, 9, 1, 1, 1, 0))
        self.told(False, [(100, -99)], (1, 1))
        self.told(True, [(100, -99)], (1, 1), (1,))
        self.told(True, [(100, -50)], (1, 1), (50,))

    def test_lists_and_tuples(self):
        self.told(True, ((1, -1, 0), (2, 0, -1)), (1, 1, 2))
        self.told(True, ((1, -1, 0), (2, 0, -1)), (3, 1, 2), (2, 4))
        self.told(False, ((1, -1, 0), (2, 0, -1)), (3, 1, 2))
        self.told(True, (), (1, 2))

    def test_what_is_handed_in_stays(self):
        rows = [(1, -1), (2, -2)]
        solves(rows, (1, 1))
        solves(rows, (2, 1), (1, 2))
        self.assertEqual(rows, [(1, -1), (2, -2)])


if __name__ == "__main__":
    unittest.main()
