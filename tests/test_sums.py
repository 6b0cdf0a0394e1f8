import unittest
from collections import Counter

from helper import Numbers, check_form, made_term, mix, thing, unknown
from mixform.forms import form_of, less, plus, times

X, Y, Z = ("any", "x"), ("any", "y"), ("any", "z")
A = ("of", "A", ())
FX, FXX = ("of", "F", (((X, 1),),)), ("of", "F", (((X, 2),),))
GREAT = 10 ** 18


def made_forms(many):
    return [form_of(made_term(Numbers(seed), 4)) for seed in range(many)]


class Plus(unittest.TestCase):
    def test_items_of_both_and_of_one_alone(self):
        one, other = ((X, 2), (Z, 1), (A, 3)), ((X, 5), (Y, 1), (FX, 2))
        wanted = ((X, 7), (Y, 1), (Z, 1), (A, 3), (FX, 2))
        self.assertEqual(plus(one, other), wanted)
        self.assertEqual(plus(other, one), wanted)

    def test_nothing_adds_nothing(self):
        self.assertEqual(plus((), ()), ())
        self.assertEqual(plus(((X, 2),), ()), ((X, 2),))
        self.assertEqual(plus((), ((X, 2),)), ((X, 2),))

    def test_things_with_unlike_parts_stay_apart(self):
        self.assertEqual(plus(((FXX, 1),), ((FX, 1),)), ((FX, 1), (FXX, 1)))

    def test_great_counts(self):
        self.assertEqual(plus(((X, GREAT),), ((X, 1),)), ((X, GREAT + 1),))
        self.assertEqual(plus(((FX, 10 ** 17),), ((FX, GREAT),)), ((FX, 10 ** 17 + GREAT),))

    def test_made_forms(self):
        forms = made_forms(40)
        for one in forms:
            for other in forms:
                whole = plus(one, other)
                check_form(self, whole)
                self.assertEqual(dict(whole), dict(Counter(dict(one)) + Counter(dict(other))))

    def test_the_form_of_a_mix_is_the_sum_of_its_parts_forms(self):
        terms = [made_term(Numbers(seed), 3) for seed in range(30)]
        for one in terms:
            for other in terms:
                self.assertEqual(form_of(mix(one, other)), plus(form_of(one), form_of(other)))


class Times(unittest.TestCase):
    FORM = ((X, 2), (A, 1), (FXX, 3))

    def test_none(self):
        self.assertEqual(times(0, self.FORM), ())
        self.assertEqual(times(0, ()), ())

    def test_once(self):
        self.assertEqual(times(1, self.FORM), self.FORM)

    def test_more(self):
        self.assertEqual(times(2, self.FORM), ((X, 4), (A, 2), (FXX, 6)))
        self.assertEqual(times(7, ()), ())

    def test_parts_stay(self):
        self.assertEqual(times(5, ((FXX, 1),)), ((FXX, 5),))

    def test_great_counts(self):
        self.assertEqual(times(GREAT, ((X, 10 ** 17), (A, GREAT))), ((X, 10 ** 35), (A, 10 ** 36)))
        self.assertEqual(times(10 ** 17, ((X, 3),)), ((X, 3 * 10 ** 17),))

    def test_so_many_times_is_added_so_often(self):
        for form in made_forms(60):
            whole = ()
            for number in range(4):
                self.assertEqual(times(number, form), whole)
                check_form(self, times(number, form))
                whole = plus(whole, form)


class Less(unittest.TestCase):
    def test_all_is_taken(self):
        form = ((X, 2), (FX, 3))
        self.assertEqual(less(form, form), ())
        self.assertEqual(less((), ()), ())

    def test_nothing_is_taken(self):
        self.assertEqual(less(((X, 2), (A, 1)), ()), ((X, 2), (A, 1)))

    def test_some_is_left(self):
        one = ((X, 5), (Y, 1), (A, 2), (FX, 3))
        self.assertEqual(less(one, ((X, 2), (A, 2), (FX, 1))), ((X, 3), (Y, 1), (FX, 2)))
        self.assertEqual(less(one, ((Y, 1),)), ((X, 5), (A, 2), (FX, 3)))

    def test_an_item_is_lacking(self):
        self.assertIsNone(less((), ((X, 1),)))
        self.assertIsNone(less(((X, 5), (A, 1)), ((X, 1), (Y, 1))))
        self.assertIsNone(less(((FXX, 5),), ((FX, 1),)))

    def test_an_item_is_there_less_often(self):
        self.assertIsNone(less(((X, 1),), ((X, 2),)))
        self.assertIsNone(less(((X, 9), (FX, 2)), ((X, 1), (FX, 3))))

    def test_great_counts(self):
        self.assertEqual(less(((X, GREAT),), ((X, 10 ** 17),)), ((X, 9 * 10 ** 17),))
        self.assertEqual(less(((X, GREAT),), ((X, GREAT - 1),)), ((X, 1),))
        self.assertEqual(less(((X, GREAT),), ((X, GREAT),)), ())
        self.assertIsNone(less(((X, GREAT),), ((X, GREAT + 1),)))

    def test_made_forms(self):
        forms = made_forms(40)
        for one in forms:
            for other in forms:
                self.assertEqual(less(plus(one, other), other), one)
                left = less(one, other)
                enough = all(dict(one).get(item, 0) >= count for item, count in other)
                self.assertEqual(left is not None, enough)
                if enough:
                    check_form(self, left)
                    self.assertEqual(plus(left, other), one)


class Kept(unittest.TestCase):
    def test_what_is_handed_in_stays(self):
        def made():
            return form_of(mix(unknown("x"), unknown("x"), thing("F", unknown("y"))))

        one, other = made(), made()
        plus(one, other)
        times(3, one)
        less(one, other)
        self.assertEqual((one, other), (made(), made()))

    def test_many_items(self):
        one = form_of(mix(*[unknown("a" + chr(97 + at // 26) + chr(97 + at % 26)) for at in range(299)]))
        self.assertEqual(len(one), 299)
        self.assertEqual(plus(one, one), times(2, one))
        self.assertEqual(less(times(3, one), one), times(2, one))

    def test_deep_forms(self):
        form = ((X, 1),)
        for _ in range(40):
            form = ((("of", "F", (form,)), 1),)
        self.assertEqual(plus(form, form), times(2, form))
        self.assertEqual(less(times(2, form), form), form)
        self.assertIsNone(less(form, times(2, form)))


if __name__ == "__main__":
    unittest.main()
