import itertools
import unittest

from helper import (NOTHING, Numbers, check_form, heap, heap_of_form, made_term, mix, regrouped, thing,
                    unknown)
from mixform.forms import form_of, same

X, Y = unknown("x"), unknown("y")
A, B = thing("A"), thing("B")
ITEM_X, ITEM_Y = ("any", "x"), ("any", "y")
ITEM_A, ITEM_B = ("of", "A", ()), ("of", "B", ())


def nested(wrap, core, times):
    for _ in range(times):
        core = wrap(core)
    return core


class FormOf(unittest.TestCase):
    def told(self, term, form):
        self.assertEqual(form_of(term), form)
        check_form(self, form_of(term))

    def test_an_unknown(self):
        self.told(X, ((ITEM_X, 1),))

    def test_a_thing_without_parts(self):
        self.told(A, ((ITEM_A, 1),))

    def test_a_thing_with_one_to_three_parts(self):
        x, y, a = ((ITEM_X, 1),), ((ITEM_Y, 1),), ((ITEM_A, 1),)
        self.told(thing("F", X), ((("of", "F", (x,)), 1),))
        self.told(thing("F", Y, X), ((("of", "F", (y, x)), 1),))
        self.told(thing("F", Y, A, X), ((("of", "F", (y, a, x)), 1),))
        self.told(thing("F", X, X, X), ((("of", "F", (x, x, x)), 1),))

    def test_nothing(self):
        self.told(NOTHING, ())
        self.told(mix(NOTHING), ())
        self.told(mix(NOTHING, mix(NOTHING, NOTHING)), ())

    def test_a_mix_of_one_part(self):
        self.told(mix(X), ((ITEM_X, 1),))
        self.told(mix(mix(mix(A))), ((ITEM_A, 1),))

    def test_a_mix_of_several_parts(self):
        self.told(mix(A, Y, X, A, A), ((ITEM_X, 1), (ITEM_Y, 1), (ITEM_A, 3)))

    def test_mixes_within_mixes_are_added_up(self):
        self.told(mix(mix(X, A), mix(mix(X), Y), X), ((ITEM_X, 3), (ITEM_Y, 1), (ITEM_A, 1)))

    def test_mixes_within_parts_of_things(self):
        part = ((ITEM_X, 2), (ITEM_A, 1))
        self.told(thing("F", mix(A, mix(X, X))), ((("of", "F", (part,)), 1),))
        self.told(thing("F", NOTHING, mix(NOTHING)), ((("of", "F", ((), ())), 1),))

    def test_equal_things_whose_parts_are_ordered_otherwise_are_one_item(self):
        one, other = thing("F", mix(X, A)), thing("F", mix(A, NOTHING, X))
        self.told(mix(one, other), ((("of", "F", (((ITEM_X, 1), (ITEM_A, 1)),)), 2),))

    def test_a_mix_in_a_part_stays_there(self):
        self.told(mix(X, thing("F", mix(X, X))), ((ITEM_X, 1), (("of", "F", (((ITEM_X, 2),),)), 1)))

    def test_unknowns_stand_ahead_of_things_and_one_sign_with_fewer_parts_ahead(self):
        term = mix(thing("F", X), thing("B"), Y, thing("F"), X, thing("F", NOTHING))
        items = [ITEM_X, ITEM_Y, ITEM_B, ("of", "F", ()), ("of", "F", ((),)), ("of", "F", (((ITEM_X, 1),),))]
        self.told(term, tuple((item, 1) for item in items))

    def test_things_are_sorted_by_the_counts_in_their_parts_as_numbers(self):
        ten, two = mix(*[X] * 10), mix(X, X)
        self.told(mix(thing("F", ten), thing("F", two)),
                  ((("of", "F", (((ITEM_X, 2),),)), 1), (("of", "F", (((ITEM_X, 10),),)), 1)))

    def test_short_and_long_names_and_signs(self):
        self.told(mix(unknown("zzzzzz"), unknown("a"), thing("ZZZZZZ"), thing("A")),
                  ((("any", "a"), 1), (("any", "zzzzzz"), 1), (("of", "A", ()), 1), (("of", "ZZZZZZ", ()), 1)))

    def test_names_and_signs_that_are_beginnings_of_one_another(self):
        names = ["a", "aa", "aaa", "aaaaaa", "ab", "b"]
        wanted = [("any", name) for name in names] + [("of", name.upper(), ()) for name in names]
        for turn in range(6):
            order = Numbers(turn).shuffled(names)
            term = mix(*[thing(name.upper()) for name in order], *[unknown(name) for name in order])
            self.told(term, tuple((item, 1) for item in wanted))

    def test_a_name_and_a_sign_are_never_one(self):
        self.told(mix(unknown("a"), thing("A")), ((("any", "a"), 1), (("of", "A", ()), 1)))


class OneForm(unittest.TestCase):
    def test_every_order_has_one_form(self):
        parts = [X, X, A, thing("F", A, X), thing("F", X, A)]
        forms = {form_of(mix(*order)) for order in itertools.permutations(parts)}
        self.assertEqual(len(forms), 1)

    def test_every_grouping_has_one_form(self):
        terms = [mix(X, Y, A), mix(mix(X, Y), A), mix(X, mix(Y, A)), mix(mix(A, X), Y), mix(mix(X), mix(Y), mix(A)),
                 mix(mix(mix(X), Y), A), mix(NOTHING, X, NOTHING, Y, A), mix(mix(X, Y, A), NOTHING)]
        for one in terms:
            for other in terms:
                self.assertEqual(form_of(one), form_of(other))

    def test_made_terms(self):
        for seed in range(300):
            numbers = Numbers(seed)
            term = made_term(numbers, 5)
            form = form_of(term)
            check_form(self, form)
            self.assertEqual(heap_of_form(form), heap(term))
            for _ in range(3):
                other = regrouped(numbers, term)
                self.assertEqual(form_of(other), form)
                self.assertIs(same(term, other), True)

    def test_made_terms_are_the_same_just_where_their_heaps_are(self):
        terms = [made_term(Numbers(seed), 2) for seed in range(120)]
        met = set()
        for one in terms:
            for other in terms:
                met.add(same(one, other))
                self.assertIs(same(one, other), heap(one) == heap(other))
        self.assertEqual(met, {True, False})

    def test_a_term_is_told_alike_again(self):
        term = mix(thing("F", mix(A, X)), X, thing("F", mix(X, A)))
        self.assertEqual(form_of(term), form_of(term))


class Same(unittest.TestCase):
    def both_ways(self, one, other, told):
        self.assertIs(same(one, other), told)
        self.assertIs(same(other, one), told)

    def test_same(self):
        self.both_ways(mix(X, Y), mix(Y, X), True)
        self.both_ways(X, mix(NOTHING, mix(X)), True)
        self.both_ways(thing("F", mix(X, Y), A), thing("F", mix(Y, NOTHING, X), mix(A)), True)
        self.both_ways(NOTHING, mix(mix(), mix()), True)

    def test_unlike_parts_in_another_order_are_not_the_same(self):
        self.both_ways(thing("F", X, Y), thing("F", Y, X), False)
        self.both_ways(thing("F", X, A, B), thing("F", X, B, A), False)
        self.both_ways(thing("F", NOTHING, X), thing("F", X, NOTHING), False)

    def test_not_the_same(self):
        self.both_ways(X, Y, False)
        self.both_ways(X, mix(X, X), False)
        self.both_ways(NOTHING, X, False)
        self.both_ways(A, B, False)
        self.both_ways(A, thing("A", NOTHING), False)
        self.both_ways(thing("F", X), thing("G", X), False)
        self.both_ways(thing("F", X), thing("F", X, X), False)
        self.both_ways(thing("F", mix(X, Y)), mix(thing("F", X), thing("F", Y)), False)
        self.both_ways(thing("F", mix(X, Y)), thing("F", X, Y), False)
        self.both_ways(unknown("a"), unknown("aa"), False)
        self.both_ways(thing("A"), thing("AA"), False)
        self.both_ways(unknown("a"), thing("A"), False)


class Edges(unittest.TestCase):
    def test_things_twenty_deep(self):
        form = ((ITEM_X, 1),)
        for _ in range(20):
            form = ((("of", "F", (form,)), 1),)
        self.assertEqual(form_of(nested(lambda part: thing("F", part), X, 20)), form)

    def test_things_and_mixes_twenty_deep(self):
        form = ((ITEM_X, 1),)
        for _ in range(10):
            form = ((ITEM_Y, 1), (("of", "F", (form,)), 1))
        self.assertEqual(form_of(nested(lambda part: mix(thing("F", part), Y), X, 10)), form)

    def test_mixes_twenty_deep(self):
        self.assertEqual(form_of(nested(lambda part: mix(A, part, NOTHING), X, 19)), ((ITEM_X, 1), (ITEM_A, 19)))

    def test_deep_terms_that_differ_at_the_bottom_alone(self):
        one = nested(lambda part: thing("F", A, part, B), mix(X, Y), 19)
        self.assertIs(same(one, nested(lambda part: thing("F", A, part, B), mix(Y, X), 19)), True)
        self.assertIs(same(one, nested(lambda part: thing("F", A, part, B), mix(Y, Y), 19)), False)

    def test_three_hundred_unknowns_things_and_mixes(self):
        parts = [X, A, thing("F", X)] * 60 + [Y] * 58
        wanted = ((ITEM_X, 60), (ITEM_Y, 58), (ITEM_A, 60), (("of", "F", (((ITEM_X, 1),),)), 60))
        self.assertEqual(form_of(mix(*parts, NOTHING)), wanted)
        self.assertEqual(form_of(mix(NOTHING, *Numbers(7).shuffled(parts))), wanted)

    def test_three_hundred_unlike_unknowns(self):
        names = ["".join(letters) for letters in itertools.product("abcdefg", repeat=3)][:299]
        wanted = tuple((("any", name), 1) for name in names)
        self.assertEqual(form_of(mix(*[unknown(name) for name in reversed(names)])), wanted)

    def test_what_is_handed_in_stays(self):
        build = [lambda: mix(Y, mix(X, thing("F", mix(B, A), X)), NOTHING), lambda: mix(X, Y)]
        one, other = build[0](), build[1]()
        form_of(one)
        same(one, other)
        self.assertEqual((one, other), (build[0](), build[1]()))


if __name__ == "__main__":
    unittest.main()
