import unittest

from helper import NOTHING, Numbers, made_term, mix, regrouped, thing, unknown
from mixform.forms import form_of, times
from mixform.shows import shown

X, Y = unknown("x"), unknown("y")
A = thing("A")
ITEM_X, ITEM_A = ("any", "x"), ("of", "A", ())


class Shown(unittest.TestCase):
    def told(self, term, text):
        self.assertEqual(shown(form_of(term)), text)

    def test_the_document_own_example(self):
        inner = thing("F", NOTHING, mix(A, Y, A))
        self.told(mix(inner, X, inner, A, X, inner), "2x + A + 3F(0, y + 2A)")

    def test_nothing(self):
        self.assertEqual(shown(()), "0")

    def test_an_unknown_and_a_thing_without_parts(self):
        self.told(X, "x")
        self.told(A, "A")
        self.told(unknown("abcdef"), "abcdef")
        self.told(thing("ABCDEF"), "ABCDEF")

    def test_one_to_three_parts(self):
        self.told(thing("F", X), "F(x)")
        self.told(thing("F", Y, X), "F(y, x)")
        self.told(thing("F", Y, A, mix(Y, X)), "F(y, A, x + y)")

    def test_parts_that_are_nothing(self):
        self.told(thing("F", NOTHING), "F(0)")
        self.told(thing("F", X, NOTHING, NOTHING), "F(x, 0, 0)")

    def test_a_count_of_one_is_not_shown(self):
        self.assertEqual(shown(((ITEM_X, 1), (ITEM_A, 2))), "x + 2A")
        self.assertEqual(shown(((ITEM_X, 11), (ITEM_A, 1))), "11x + A")

    def test_great_counts(self):
        self.assertEqual(shown(((ITEM_X, 10 ** 18), (ITEM_A, 10 ** 17))), "1" + "0" * 18 + "x + 1" + "0" * 17 + "A")
        self.assertEqual(shown(((ITEM_A, 10 ** 99),)), "1" + "0" * 99 + "A")

    def test_things_within_things(self):
        self.told(thing("F", thing("G", mix(A, A)), mix(thing("G", X), thing("G", X), Y)), "F(G(2A), y + 2G(x))")

    def test_items_stand_in_their_order(self):
        self.told(mix(thing("B"), Y, thing("F", X), A, unknown("ya"), X), "x + y + ya + A + B + F(x)")

    def test_forty_deep(self):
        form = ((ITEM_X, 1),)
        for _ in range(40):
            form = ((("of", "F", (form,)), 2),)
        self.assertEqual(shown(form), "2F(" * 40 + "x" + ")" * 40)

    def test_a_term_is_shown_alike_however_it_is_ordered_and_grouped(self):
        for seed in range(100):
            numbers = Numbers(seed)
            term = made_term(numbers, 4)
            self.told(regrouped(numbers, term), shown(form_of(term)))

    def test_unlike_forms_are_shown_unlike(self):
        forms = {form_of(made_term(Numbers(seed), 4)) for seed in range(300)}
        self.assertEqual(len({shown(form) for form in forms}), len(forms))

    def test_what_is_handed_in_stays(self):
        form = times(2, form_of(thing("F", mix(Y, X))))
        shown(form)
        self.assertEqual(form, times(2, form_of(thing("F", mix(X, Y)))))


if __name__ == "__main__":
    unittest.main()
