import unittest

from mixform.errors import MixError, NoRow, NoRule, NoText, TooMany

REFUSALS = (NoText, TooMany, NoRow, NoRule)


class Errors(unittest.TestCase):
    def test_the_base_stands_straight_under_value_error(self):
        self.assertEqual(MixError.__bases__, (ValueError,))

    def test_each_stands_straight_under_the_base(self):
        for refusal in REFUSALS:
            self.assertEqual(refusal.__bases__, (MixError,))
            self.assertTrue(issubclass(refusal, ValueError))

    def test_none_stands_under_another_one(self):
        for refusal in REFUSALS:
            for other in REFUSALS:
                self.assertEqual(issubclass(refusal, other), refusal is other)

    def test_each_bears_its_name_and_its_words(self):
        names = ["NoText", "TooMany", "NoRow", "NoRule"]
        self.assertEqual([refusal.__name__ for refusal in REFUSALS], names)
        for refusal in REFUSALS:
            with self.assertRaises(MixError) as caught:
                raise refusal("why")
            self.assertIs(type(caught.exception), refusal)
            self.assertEqual(str(caught.exception), "why")


if __name__ == "__main__":
    unittest.main()
