import unittest
from itertools import product

from helper import (Numbers, Refusing, check_form, made_form, made_term, names_in, pieces, regrouped, replaced,
                    size_of, way)
from mixform.errors import TooMany
from mixform.forms import form_of
from mixform.matches import matches
from mixform.measures import size
from mixform.reader import read
from mixform.ways import put

GREAT = 10 ** 18


def walked(pattern, form):
    """All ways made of pieces of the form that make the pattern that form, sorted."""
    names = names_in(pattern)
    found = []
    for forms in product(pieces(form), repeat=len(names)):
        if replaced(pattern, dict(zip(names, forms))) == form:
            found.append(tuple(zip(names, forms)))
    return sorted(found)


class Told(unittest.TestCase):
    def told(self, pattern, form, *ways):
        self.assertEqual(matches(read(pattern), read(form)), sorted(ways))

    def test_the_pattern_of_nothing(self):
        self.assertEqual(matches((), ()), [()])
        self.told("0", "A")
        self.told("0", "x")
        self.told("0", "2F(0)")

    def test_the_form_of_nothing(self):
        self.told("x", "0", way(x="0"))
        self.told("2x + 3y + z", "0", way(x="0", y="0", z="0"))
        self.told("A", "0")
        self.told("x + F(y)", "0")

    def test_patterns_without_unknowns(self):
        self.told("A", "A", ())
        self.told("2A + F(B, 0)", "2A + F(B, 0)", ())
        self.told("A", "2A")
        self.told("2A", "A")
        self.told("A", "B")
        self.told("F(A)", "F(B)")
        self.told("F(A)", "F(A, 0)")
        self.told("F(0)", "F")
        self.told("F(A) + F(2A)", "F(A) + F(2A)", ())
        self.told("2F(A)", "F(A) + F(2A)")

    def test_one_unknown(self):
        self.told("x", "A + 2F(y)", way(x="A + 2F(y)"))
        self.told("2x", "2A + 4B", way(x="A + 2B"))
        self.told("2x", "2A + 3B")
        self.told("x + A", "2A + B", way(x="A + B"))
        self.told("x + 3A", "2A + B")
        self.told("F(x)", "F(2A)", way(x="2A"))
        self.told("F(x)", "2F(2A)")
        self.told("2F(x)", "2F(2A)", way(x="2A"))
        self.told("x + F(x)", "A + F(A)", way(x="A"))
        self.told("x + F(x)", "A + F(B)")
        self.told("x + F(x)", "F(A) + F(F(A))", way(x="F(A)"))

    def test_two_unknowns(self):
        self.told("x + y", "A", way(x="A", y="0"), way(x="0", y="A"))
        self.told("x + y", "2A", way(x="2A", y="0"), way(x="A", y="A"), way(x="0", y="2A"))
        self.told("x + 2y", "3A", way(x="3A", y="0"), way(x="A", y="A"))
        self.told("F(x) + F(y)", "F(A) + F(B)", way(x="A", y="B"), way(x="B", y="A"))
        self.told("F(x) + F(y)", "2F(A)", way(x="A", y="A"))
        self.told("F(x) + 2F(y)", "2F(A) + F(B)", way(x="B", y="A"))
        self.told("x + F(y)", "F(A) + F(B)", way(x="F(B)", y="A"), way(x="F(A)", y="B"))
        self.told("G(x, y)", "G(A, 0)", way(x="A", y="0"))
        self.told("F(x + y) + x", "F(A + B) + B", way(x="B", y="A"))

    def test_three_unknowns(self):
        self.told("x + y + z", "A", way(x="A", y="0", z="0"), way(x="0", y="A", z="0"), way(x="0", y="0", z="A"))
        self.told("H(x, 2y, z + A)", "H(B, 4B, 3A)", way(x="B", y="2B", z="2A"))
        self.told("H(x, x + y, x + y + z)", "H(A, A + B, 2A + 2B)", way(x="A", y="B", z="A + B"))
        self.told("G(F(x), y) + z", "G(F(A), 0) + G(F(0), A)", way(x="A", y="0", z="G(F(0), A)"),
                  way(x="0", y="A", z="G(F(A), 0)"))

    def test_an_unknown_several_times_and_at_several_depths(self):
        self.told("x + F(2x + G(x, y))", "A + F(2A + G(A, B))", way(x="A", y="B"))
        self.told("x + F(2x + G(x, y))", "A + F(2A + G(B, B))")
        self.told("F(x) + F(2x)", "F(A) + F(2A)", way(x="A"))
        self.told("F(x) + F(2x)", "2F(0)", way(x="0"))
        self.told("F(x) + F(2x)", "2F(A)")
        self.told("F(x) + F(F(x))", "F(F(A)) + F(A)", way(x="A"))

    def test_things_of_one_sign_with_unlike_numbers_of_parts(self):
        self.told("F(x)", "F(A, B)")
        self.told("F(x, y)", "F(A)")
        self.told("F(x) + y", "F + F(0) + F(0, 0)", way(x="0", y="F + F(0, 0)"))
        self.told("F + y", "F + F(0) + F(0, 0)", way(y="F(0) + F(0, 0)"))

    def test_names_of_both_are_no_bond(self):
        self.told("x", "x + y", way(x="x + y"))
        self.told("x", "F(x)", way(x="F(x)"))
        self.told("x + F(y)", "x + F(x)", way(x="x", y="x"))
        self.told("F(x) + F(y)", "F(y) + F(x)", way(x="x", y="y"), way(x="y", y="x"))
        self.told("2x", "x + y")
        self.told("x + A", "x")
        self.told("x + y", "x", way(x="x", y="0"), way(x="0", y="x"))

    def test_counts_as_numbers(self):
        great = ((("any", "x"), GREAT), (("any", "y"), 1))
        self.assertEqual(matches(great, read("9A")), [way(x="0", y="9A")])
        self.assertEqual(matches(((("any", "x"), GREAT),), read("A")), [])
        self.assertEqual(matches(((("any", "x"), GREAT),), ()), [way(x="0")])
        self.assertEqual(matches(((("of", "A", ()), GREAT),), read("9A")), [])
        inner = ((("of", "F", (great,)), 2), (("any", "x"), GREAT - 1))
        self.assertEqual(matches(tuple(sorted(inner)), read("2F(2A)")), [way(x="0", y="2A")])
        thing = ((("any", "y"), 1), (("of", "F", (((("any", "x"), GREAT),),)), GREAT))
        self.assertEqual(matches(thing, read("3F(A)")), [])

    def test_great_patterns(self):
        many = tuple((("of", "A" + chr(65 + at // 26) + chr(65 + at % 26), ()), 1) for at in range(290))
        self.assertEqual(matches(many, read("AAA + AAB")), [])
        self.assertEqual(matches(((("any", "x"), 1),) + many, read("9AAA")), [])
        deep = "F(" * 20 + "x" + ")" * 20
        self.assertEqual(matches(read(deep), read("F(F(F(A)))")), [])
        deep = "F(" * 9 + "x" + ")" * 9
        self.assertEqual(matches(read(deep), read(deep.replace("x", "A"))), [way(x="A")])


class Walked(unittest.TestCase):
    """What is told set against all ways made of pieces of the form."""

    def check(self, pattern, form):
        wanted = walked(pattern, form)
        told = matches(pattern, form, 300)
        self.assertIs(type(told), list)
        self.assertEqual(told, wanted, (pattern, form))
        for one in told:
            self.assertIs(type(one), tuple)
            self.assertEqual([name for name, _ in one], names_in(pattern))
            self.assertEqual(put(pattern, one), form)
            for _, piece in one:
                check_form(self, piece)
        return len(wanted)

    def test_forms_that_come_of_the_pattern(self):
        found = 0
        for seed in range(500):
            numbers = Numbers(seed)
            pattern = made_form(numbers, ["x", "y", "z"][:1 + numbers.below(3)], 5, "AFGH")
            forms = {name: made_form(numbers, ["x", "v"], numbers.below(3)) for name in names_in(pattern)}
            form = replaced(pattern, forms)
            if size_of(form) <= 7 and len(pieces(form)) ** len(forms) <= 5000:
                found += self.check(pattern, form)
        self.assertGreater(found, 500)

    def test_any_forms(self):
        found = 0
        for seed in range(900):
            numbers = Numbers(7000 + seed)
            pattern = made_form(numbers, ["x", "y", "z"][:numbers.below(4)], 4, "AF")
            form = made_form(numbers, ["x"], 6, "AF")
            if len(pieces(form)) ** len(names_in(pattern)) <= 5000:
                found += self.check(pattern, form)
        self.assertGreater(found, 300)

    def test_all_sums_of_two_unknowns(self):
        for one, other, first, second in product(range(3), range(1, 4), range(4), range(3)):
            pattern = read(" + ".join([f"{one}x"] * bool(one) + [f"{other}y"]))
            form = read(" + ".join([f"{first}A"] * bool(first) + [f"{second}F(x)"] * bool(second)) or "0")
            self.check(pattern, form)

    def test_one_pattern_in_other_orders_and_groupings(self):
        for seed in range(60):
            numbers = Numbers(9000 + seed)
            pattern, form = made_term(numbers, 2), made_term(numbers, 3)
            if size(form_of(form)) <= 10:
                told = matches(form_of(pattern), form_of(form), 300)
                again = form_of(regrouped(numbers, pattern)), form_of(regrouped(numbers, form))
                self.assertEqual(matches(*again, 300), told)


class Bounds(Refusing):
    def test_the_form_size(self):
        self.assertEqual(matches(read("x"), read("10A")), [way(x="10A")])
        self.assertEqual(matches(read("x"), read("2F(A, 3B)")), [way(x="2F(A, 3B)")])
        self.assertEqual(matches(read("A"), read("F(G(3A, 5B))")), [])
        for text in ("11A", "2F(A, 3B) + C", "F(G(3A, 6B))", "A + B + C + D + E + F + G + H + I + J + K", "12x"):
            self.refused(TooMany, matches, read("x"), read(text))
            self.refused(TooMany, matches, read("B"), read(text))
            self.refused(TooMany, matches, (), read(text), 300)
        self.refused(TooMany, matches, read("x"), ((("of", "A", ()), GREAT),))

    def test_the_pattern_unknowns(self):
        self.assertEqual(matches(read("x + y + z"), ()), [way(x="0", y="0", z="0")])
        self.assertEqual(matches(read("F(x, y, z) + 3x"), read("A")), [])
        for text in ("w + x + y + z", "F(w, x, y) + z", "F(F(F(w) + x) + y) + 2z", "A + G(w + x, y + z)"):
            self.refused(TooMany, matches, read(text), ())
            self.refused(TooMany, matches, read(text), read("A"))
            self.refused(TooMany, matches, read(text), read("A"), 300)

    def test_as_many_as_most_and_one_more(self):
        pattern = read("x + y")
        for count in range(10):
            form = read(f"{count}A" if count else "0")
            told = matches(pattern, form, count + 1)
            self.assertEqual(len(told), count + 1)
            self.refused(TooMany, matches, pattern, form, count)
            self.assertEqual(matches(pattern, form, 300), told)

    def test_most_of_none(self):
        self.assertEqual(matches(read("A"), read("B"), 0), [])
        self.assertEqual(matches(read("F(x) + F(2x)"), read("2F(A)"), 0), [])
        self.refused(TooMany, matches, read("A"), read("A"), 0)
        self.refused(TooMany, matches, (), (), 0)
        self.refused(TooMany, matches, read("x"), read("A"), 0)

    def test_most_left_out(self):
        # Of an item c times two unknowns take their shares in c + 1 ways: 5 * 5 * 2 * 2.
        pattern, form = read("x + y"), read("4A + 4B + C + D")
        self.assertEqual(len(matches(pattern, form)), 100)
        self.refused(TooMany, matches, pattern, form, 99)
        # Three unknowns do so in (c + 1) * (c + 2) / 2 ways: 6 * 6 * 3.
        pattern, form = read("x + y + z"), read("2A + 2B + C")
        self.refused(TooMany, matches, pattern, form)
        self.refused(TooMany, matches, pattern, form, 107)
        self.assertEqual(len(matches(pattern, form, 108)), 108)

    def test_most_of_three_hundred(self):
        pattern = read("x + y + z")
        form = read("3A + 3B + C")
        self.assertEqual(len(matches(pattern, form, 300)), 300)
        self.refused(TooMany, matches, pattern, form, 299)
        self.refused(TooMany, matches, pattern, read("5A + 4B"), 300)
        self.refused(TooMany, matches, pattern, read("A + B + C + D + E + F + G + H + I + J"), 300)

    def test_matches_of_several_things_count_together(self):
        pattern, form = read("x + y + F(z)"), read("A + B + C + D + F(E) + F(0)")
        self.assertEqual(len(matches(pattern, form, 64)), 64)
        self.refused(TooMany, matches, pattern, form, 63)


class Kept(unittest.TestCase):
    def test_what_is_handed_in_stays(self):
        pattern, form = read("x + F(y + x)"), read("A + F(A + B) + F(B)")
        told = matches(pattern, form)
        self.assertEqual((pattern, form), (read("x + F(y + x)"), read("A + F(A + B) + F(B)")))
        self.assertEqual(matches(pattern, form), told)

    def test_what_was_told_may_be_changed(self):
        pattern, form = read("x + y"), read("A + B")
        told = matches(pattern, form)
        before = list(told)
        told.clear()
        told.append(None)
        self.assertEqual(matches(pattern, form), before)

    def test_what_is_told_may_be_handed_on(self):
        for one in matches(read("x + F(y)"), read("A + F(B) + 2F(z)")):
            self.assertEqual(put(read("x + F(y)"), one), read("A + F(B) + 2F(z)"))


if __name__ == "__main__":
    unittest.main()
