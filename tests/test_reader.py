import unittest

from helper import NOTHING, Numbers, check_form, made_term, mix, thing, unknown, written
from mixform.forms import form_of, plus, times
from mixform.measures import depth
from mixform.reader import read
from mixform.shows import shown

X, Y = unknown("x"), unknown("y")
A = thing("A")
ITEM_X, ITEM_Y, ITEM_A = ("any", "x"), ("any", "y"), ("of", "A", ())
FORM_X = ((ITEM_X, 1),)
NINES = 10 ** 18 - 1


def deep_form(many, count=1):
    form = FORM_X
    for _ in range(many):
        form = ((("of", "F", (form,)), count),)
    return form


class Read(unittest.TestCase):
    def told(self, text, term):
        self.assertEqual(read(text), form_of(term), text)

    def test_the_document_own_examples(self):
        inner = thing("F", NOTHING, mix(Y, A, A))
        self.told("2x + A + 3F(0, y + 2A)", mix(X, X, A, inner, inner, inner))
        self.told("0 + 2(x + 0)", mix(X, X))
        self.told("3(0)", NOTHING)

    def test_one_part(self):
        self.told("0", NOTHING)
        self.told("x", X)
        self.told("A", A)
        self.told("(x)", X)
        self.told("abcdef", unknown("abcdef"))
        self.told("zzzzzz", unknown("zzzzzz"))
        self.told("a", unknown("a"))
        self.told("ABCDEF", thing("ABCDEF"))
        self.told("ZZZZZZ", thing("ZZZZZZ"))

    def test_parts_in_another_order_and_in_brackets(self):
        wanted = form_of(mix(X, X, Y, A, thing("F", mix(X, Y))))
        for text in ("2x + y + A + F(x + y)", "F(y + x) + A + y + 2x", "x + A + x + F((x + y)) + y",
                     "(x + (y + A)) + (x + F(y + (x)))", "((x)) + (((A + x + y + F(0 + x + 0 + y))))",
                     "0 + (2(x) + 0 + (0)) + 1(y + 1A) + 1F(1x + 1y)"):
            self.assertEqual(read(text), wanted, text)

    def test_equal_things_are_added_up(self):
        self.told("F(x + y) + F(y + x)", mix(*[thing("F", mix(X, Y))] * 2))
        self.told("2F(2x) + 3F(x + x)", mix(*[thing("F", mix(X, X))] * 5))

    def test_things_of_none_to_three_parts(self):
        self.told("F", thing("F"))
        self.told("F(x)", thing("F", X))
        self.told("F(y, x)", thing("F", Y, X))
        self.told("F(y, 0, x + A)", thing("F", Y, NOTHING, mix(A, X)))
        self.told("F(0, 0, 0)", thing("F", NOTHING, NOTHING, NOTHING))
        self.told("F((0))", thing("F", NOTHING))

    def test_things_and_brackets_within_one_another(self):
        self.told("F(G(x, 2H), (A + 2(G + y)))", thing("F", thing("G", X, mix(*[thing("H")] * 2)),
                                                   mix(A, *[mix(thing("G"), Y)] * 2)))
        self.told("2(F(2(x)) + 3(0 + 2(A)))", mix(*[thing("F", mix(X, X))] * 2, *[A] * 12))

    def test_numbers(self):
        for number in (1, 2, 9, 10, 100, 10 ** 17, 123456789012345678, NINES):
            self.assertEqual(read(f"{number}x"), ((ITEM_X, number),))
            self.assertEqual(read(f"{number}A"), ((ITEM_A, number),))
            self.assertEqual(read(f"{number}F({number}x)"), ((("of", "F", (((ITEM_X, number),),)), number),))
            self.assertEqual(read(f"{number}(x + 2A)"), ((ITEM_X, number), (ITEM_A, 2 * number)))
            self.assertEqual(read(f"{number}(0)"), ())

    def test_counts_of_more_than_eighteen_figures(self):
        self.assertEqual(read(f"{NINES}x + x"), ((ITEM_X, 10 ** 18),))
        self.assertEqual(read(f"{NINES}x + y + {NINES}x"), ((ITEM_X, 2 * NINES), (ITEM_Y, 1)))
        self.assertEqual(read(f"{NINES}({NINES}x)"), ((ITEM_X, NINES ** 2),))
        self.assertEqual(read(f"F({10 ** 17}(100A))"), ((("of", "F", (((ITEM_A, 10 ** 19),),)), 1),))
        self.assertEqual(read(f"{NINES}(" * 5 + "x" + ")" * 5), ((ITEM_X, NINES ** 5),))

    def test_twenty_deep(self):
        self.assertEqual(read("F(" * 20 + "x" + ")" * 20), deep_form(20))
        self.assertEqual(read("(" * 20 + "x" + ")" * 20), FORM_X)
        self.assertEqual(read("2(" * 20 + "x" + ")" * 20), ((ITEM_X, 2 ** 20),))
        self.assertEqual(read("F((" * 10 + "x" + "))" * 10), deep_form(10))
        self.assertEqual(read("y + 2(" + "F(" * 19 + "x" + ")" * 20), plus(((ITEM_Y, 1),), times(2, deep_form(19))))
        # The thing in the twentieth brackets has none of its own.
        self.assertEqual(depth(read("F(" * 20 + "A" + ")" * 20)), 21)

    def test_brackets_beside_one_another_are_not_deep(self):
        self.assertEqual(read(" + ".join(["(x)"] * 40)), ((ITEM_X, 40),))
        self.assertEqual(read(" + ".join(["F(G(x), (x))"] * 30))[0][1], 30)
        twenty = "(" * 20 + "x" + ")" * 20
        self.assertEqual(read(twenty + " + " + twenty), ((ITEM_X, 2),))

    def test_six_hundred_signs(self):
        text = " + ".join(["x"] * 149 + ["xxxx"])
        self.assertEqual(len(text), 600)
        self.assertEqual(read(text), ((ITEM_X, 149), (("any", "xxxx"), 1)))
        text = "F(" + " + ".join(["AB"] * 119 + ["0"]) + ")"
        self.assertEqual(len(text), 599)
        self.assertEqual(read("2" + text), ((("of", "F", (((("of", "AB", ()), 119),),)), 2),))

    def test_texts_made_by_rule(self):
        for seed in range(400):
            text, term = written(Numbers(seed), 4)
            if len(text) <= 600:
                form = read(text)
                check_form(self, form)
                self.assertEqual(form, form_of(term), text)

    def test_what_is_shown_is_read_again(self):
        shortest = 0
        for seed in range(300):
            form = form_of(made_term(Numbers(seed), 5))
            text = shown(form)
            if len(text) <= 600:
                shortest += 1
                self.assertEqual(read(text), form)
        self.assertGreater(shortest, 250)

    def test_great_and_deep_forms_are_read_again(self):
        for form in ((), ((ITEM_X, NINES), (ITEM_A, 10 ** 17)), deep_form(20), deep_form(20, NINES), deep_form(19, 2),
                     ((("of", "F", (deep_form(19, 3), (), deep_form(2))), 7),)):
            text = shown(form)
            self.assertLessEqual(len(text), 600)
            self.assertEqual(read(text), form)

    def test_asked_again_the_same_is_told(self):
        self.assertEqual(read("x + 2F(y, A)"), read("x + 2F(y, A)"))


if __name__ == "__main__":
    unittest.main()
