import unittest

from helper import Numbers, made_term, mix, thing, unknown
from mixform.forms import form_of, plus, times
from mixform.measures import depth, size, spread, things, unknowns

X, Y = ("any", "x"), ("any", "y")
A, B = ("of", "A", ()), ("of", "B", ())
EXAMPLE = ((("of", "F", (((A, 1),), ((B, 3),))), 2),)
GREAT = 10 ** 18


def deep(times_deep):
    form = ((X, 1),)
    for _ in range(times_deep):
        form = ((("of", "F", (form,)), 2),)
    return form


def counted(form, count_of):
    """The size or the spread, told by walking every place by itself."""
    left, whole = [(pair, 1) for pair in form], 0
    while left:
        (item, count), around = left.pop()
        whole += around * count_of(count)
        if item[0] == "of":
            left.extend((pair, around * count_of(count)) for part in item[2] for pair in part)
    return whole


class SizeAndSpread(unittest.TestCase):
    def test_the_document_own_example(self):
        self.assertEqual(size(EXAMPLE), 10)
        self.assertEqual(spread(EXAMPLE), 3)

    def test_nothing(self):
        self.assertEqual(size(()), 0)
        self.assertEqual(spread(()), 0)

    def test_unknowns_and_things_without_parts(self):
        self.assertEqual(size(((X, 4), (A, 5))), 9)
        self.assertEqual(spread(((X, 4), (A, 5))), 2)

    def test_parts_that_are_nothing(self):
        form = ((("of", "F", ((), (), ())), 3),)
        self.assertEqual((size(form), spread(form)), (3, 1))

    def test_things_within_things_with_great_counts(self):
        inner = ("of", "G", (((X, 10 ** 17),), ()))
        form = ((Y, 1), (("of", "F", (((inner, GREAT),),)), GREAT))
        self.assertEqual(size(form), 1 + GREAT * (1 + GREAT * (1 + 10 ** 17)))
        self.assertEqual(spread(form), 4)

    def test_one_item_in_several_places_counts_in_each(self):
        form = ((A, 1), (("of", "F", (((A, 1),), ((A, 2),))), 1))
        self.assertEqual((size(form), spread(form)), (5, 4))

    def test_deep(self):
        self.assertEqual((size(deep(20)), spread(deep(20))), (3 * 2 ** 20 - 2, 21))
        self.assertEqual((size(deep(40)), spread(deep(40))), (3 * 2 ** 40 - 2, 41))

    def test_made_forms(self):
        for seed in range(200):
            form = times(3, form_of(made_term(Numbers(seed), 5)))
            self.assertEqual(size(form), counted(form, lambda count: count))
            self.assertEqual(spread(form), counted(form, lambda count: 1))

    def test_they_are_whole_numbers(self):
        for form in ((), ((X, 1),), ((A, 2),), EXAMPLE):
            for measure in (size, spread, depth):
                self.assertIs(type(measure(form)), int)


class Depth(unittest.TestCase):
    def test_the_document_own_example(self):
        self.assertEqual(depth(EXAMPLE), 2)

    def test_without_things(self):
        self.assertEqual(depth(()), 0)
        self.assertEqual(depth(((X, GREAT), (Y, 1))), 0)

    def test_things_without_parts(self):
        self.assertEqual(depth(((A, 7),)), 1)
        self.assertEqual(depth(((X, 1), (A, 1), (B, 1))), 1)

    def test_parts_without_things(self):
        self.assertEqual(depth(((("of", "F", ((), ((X, 2),))), 1),)), 1)

    def test_the_greatest_counts_wherever_it_stands(self):
        two = ((("of", "G", (((A, 1),),)), 1),)
        self.assertEqual(depth(((("of", "F", (two, (), ((A, 1),))), 1),)), 3)
        self.assertEqual(depth(((("of", "F", (((A, 1),), (), two)), 1),)), 3)
        self.assertEqual(depth(((("of", "E", (two,)), 1), (("of", "F", ()), 1))), 3)
        self.assertEqual(depth(((("of", "E", ()), 1), (("of", "F", (two,)), 1))), 3)

    def test_deep(self):
        for many in (1, 2, 20, 40):
            self.assertEqual(depth(deep(many)), many)


class Within(unittest.TestCase):
    def test_nothing(self):
        self.assertEqual(unknowns(()), ())
        self.assertEqual(things(()), ())

    def test_only_unknowns_and_only_things(self):
        self.assertEqual(unknowns(((X, 2), (Y, 1))), ("x", "y"))
        self.assertEqual(things(((X, 2), (Y, 1))), ())
        self.assertEqual(unknowns(EXAMPLE), ())

    def test_the_document_own_example(self):
        self.assertEqual(things(EXAMPLE), (A, B, EXAMPLE[0][0]))

    def test_at_any_depth_sorted_each_once(self):
        inner = thing("G", unknown("aa"), mix(unknown("x"), thing("A")))
        form = form_of(mix(unknown("x"), thing("F", mix(inner, unknown("a")), inner), thing("A"), inner, unknown("aa")))
        self.assertEqual(unknowns(form), ("a", "aa", "x"))
        g = form_of(inner)[0][0]
        f = form_of(thing("F", mix(inner, unknown("a")), inner))[0][0]
        self.assertEqual(things(form), (A, f, g))

    def test_a_name_at_the_bottom_alone(self):
        self.assertEqual(unknowns(deep(20)), ("x",))
        self.assertEqual(unknowns(plus(deep(20), ((("any", "b"), 1),))), ("b", "x"))

    def test_things_of_one_sign_with_unlike_parts_are_several(self):
        none, nothing, x, xx = [("of", "F", parts) for parts in ((), ((),), (((X, 1),),), (((X, 2),),))]
        self.assertEqual(things(((none, 1), (nothing, 1), (x, 1), (xx, 1))), (none, nothing, x, xx))

    def test_a_thing_and_its_own_parts(self):
        chain = [form[0][0] for form in map(deep, range(1, 21))]
        self.assertEqual(things(deep(20)), tuple(sorted(chain)))
        self.assertEqual(len(things(deep(20))), 20)

    def test_names_that_are_beginnings_of_one_another(self):
        names = ("a", "aa", "aaaaaa", "ab", "b")
        form = form_of(thing("F", mix(*[unknown(name) for name in reversed(names)]), unknown("ab")))
        self.assertEqual(unknowns(form), names)

    def test_made_forms(self):
        for seed in range(200):
            form = form_of(made_term(Numbers(seed), 5))
            left, names, found = list(form), set(), set()
            while left:
                item = left.pop()[0]
                if item[0] == "any":
                    names.add(item[1])
                else:
                    found.add(item)
                    left.extend(pair for part in item[2] for pair in part)
            self.assertEqual(unknowns(form), tuple(sorted(names)))
            self.assertEqual(things(form), tuple(sorted(found)))

    def test_three_hundred_things(self):
        chain = [thing("F", thing("G", thing("H" + chr(65 + at % 26) + chr(65 + at // 26)))) for at in range(100)]
        form = tuple(sorted(form_of(term)[0] for term in chain))
        self.assertEqual(spread(form), 300)
        self.assertEqual(len(things(form)), 300)

    def test_what_is_handed_in_stays(self):
        form = form_of(mix(unknown("x"), thing("F", thing("A"))))
        before = form_of(mix(unknown("x"), thing("F", thing("A"))))
        for measure in (size, spread, depth, unknowns, things):
            self.assertEqual(measure(form), measure(form))
        self.assertEqual(form, before)


if __name__ == "__main__":
    unittest.main()
