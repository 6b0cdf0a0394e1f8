import unittest
from itertools import product

from helper import Numbers, Refusing, check_form, made_pair, names_in, replaced, size_of, way
from mixform.alike import alike
from mixform.choices import choices, way_of
from mixform.compare import further
from mixform.errors import TooMany
from mixform.forms import less
from mixform.partings import partings, things_of
from mixform.reader import read
from mixform.reasons import why
from mixform.ways import chained, has, put

SMALL = [read(text) for text in ("0", "A", "B", "2A", "A + B", "u", "v", "u + A", "F(0)", "F(A)", "F(u)", "F(F(A))",
                                 "G(A, u)", "2u + v")]


class Checking(Refusing):
    def check(self, one, other, told=None):
        """Fails where what is told doesn't make the two forms alike, or is too much; tells it."""
        told = alike(one, other) if told is None else told
        self.assertIs(type(told), list)
        names = names_in(one, other)
        for at, found in enumerate(told):
            self.assertIs(type(found), tuple)
            self.assertEqual([name for name, _ in found], names)
            for _, form in found:
                check_form(self, form)
            self.assertEqual(replaced(one, dict(found)), replaced(other, dict(found)))
            for beside in told[:at] + told[at + 1:]:
                self.assertIsNone(further(beside, found, names))
        return told

    def check_images(self, one, other, told, forms):
        """Fails where a way made of the forms makes the two alike, and yet is no image of one told; tells how many."""
        names = names_in(one, other)
        found = 0
        for row in product(forms, repeat=len(names)):
            made = tuple(zip(names, row))
            if replaced(one, dict(made)) == replaced(other, dict(made)):
                self.assertTrue(self.shown_image(told, made, names), (one, other, made))
                found += 1
        return found

    def shown_image(self, told, made, names):
        """Whether a way is an image of one told, the further way put in behind it."""
        for one in told:
            more = further(one, made, names)
            if more is not None:
                self.assertEqual([has(chained(one, more), name) for name in names], [form for _, form in made])
                return True
        return False

    def equally_many(self, told, others, names):
        """Fails where each of the ones told is no image of one of the others, or the other way round."""
        for some, beside in ((told, others), (others, told)):
            for one in some:
                self.assertTrue(any(further(two, one, names) is not None for two in beside))
        self.assertEqual(len(told), len(others))


class Told(Checking):
    def told(self, one, other, *wanted):
        """Fails where the ways told aren't those wanted, up to the names of unknowns."""
        one, other = read(one), read(other)
        names = names_in(one, other)
        found = self.check(one, other)
        self.assertEqual(len(found), len(wanted))
        for told in found:
            both = [some for some in wanted if further(some, told, names) is not None]
            self.assertEqual([further(told, some, names) is not None for some in both], [True])
        self.equally_many(found, self.check(other, one), names)

    def test_forms_that_are_equal(self):
        self.told("0", "0", ())
        self.told("2A + F(B)", "2A + F(B)", ())
        self.told("x", "x", way(x="a"))
        self.told("x + 2y + F(x)", "x + 2y + F(x)", way(x="a", y="b"))
        self.told("F(x) + F(y)", "F(x) + F(y)", way(x="a", y="b"))

    def test_forms_without_names(self):
        self.told("A", "A", ())
        self.told("A", "B")
        self.told("A", "2A")
        self.told("A", "0")
        self.told("F(A)", "F(B)")
        self.told("F(A)", "F(A, 0)")
        self.told("F", "F(0)")

    def test_an_unknown_against_nothing(self):
        self.told("x", "0", way(x="0"))
        self.told("2x + y", "0", way(x="0", y="0"))
        self.told("x + A", "0")

    def test_an_unknown_against_a_thing(self):
        self.told("x", "A", way(x="A"))
        self.told("x", "2A + F(B)", way(x="2A + F(B)"))
        self.told("x", "F(y)", way(x="F(a)", y="a"))
        self.told("2x", "A")
        self.told("2x", "2A", way(x="A"))
        self.told("x + A", "A", way(x="0"))
        self.told("x + A", "2A + B", way(x="A + B"))

    def test_an_unknown_against_a_thing_that_it_stands_in(self):
        self.told("x", "F(x)")
        self.told("x", "F(F(x))")
        self.told("x", "F(x + y)")
        self.told("x + y", "F(x)", way(x="0", y="F(0)"))
        self.told("x + y", "F(x) + F(y)")
        self.told("x + A", "F(x) + A")

    def test_sums_against_sums(self):
        self.told("x", "y", way(x="a", y="a"))
        self.told("x + y", "z", way(x="a", y="b", z="a + b"))
        self.told("w + x", "y + z", way(w="a + b", x="c + d", y="a + c", z="b + d"))
        self.told("2x", "3y", way(x="3a", y="2a"))
        self.told("x + y", "2z", way(x="2a + c", y="2b + c", z="a + b + c"))
        self.told("x + A", "y + B", way(x="a + B", y="a + A"))
        self.told("x + y", "A", way(x="A", y="0"), way(x="0", y="A"))
        self.told("x + y", "z + A", way(x="a + A", y="b", z="a + b"), way(x="a", y="b + A", z="a + b"))
        self.told("x + 2y", "y + x + A", way(x="a", y="A"))
        self.told("x + y", "2x + y", way(x="0", y="a"))

    def test_things_of_one_kind(self):
        self.told("F(x)", "F(A)", way(x="A"))
        self.told("F(x)", "F(y)", way(x="a", y="a"))
        self.told("F(x) + F(y)", "F(A) + F(B)", way(x="A", y="B"), way(x="B", y="A"))
        self.told("F(x) + F(y)", "2F(A)", way(x="A", y="A"))
        self.told("2F(x)", "F(y) + F(z)", way(x="a", y="a", z="a"))
        self.told("F(x) + F(y)", "F(w) + F(z)", way(w="a", x="a", y="b", z="b"), way(w="b", x="a", y="b", z="a"))
        self.told("G(x, A)", "G(B, y)", way(x="B", y="A"))
        self.told("G(x, x)", "G(A, y)", way(x="A", y="A"))
        self.told("G(x, x)", "G(A, B)")
        self.told("H(x, y, z)", "H(y, z, A)", way(x="A", y="A", z="A"))
        self.told("F(x + y)", "F(A)", way(x="A", y="0"), way(x="0", y="A"))

    def test_things_of_unlike_kinds(self):
        self.told("F(x)", "G(x, y)")
        self.told("F(x)", "F(x, y)")
        self.told("F(x) + y", "G(A, B) + F(A)", way(x="A", y="G(A, B)"))
        self.told("F(x) + y", "G(A, B) + z", way(x="a", y="b + G(A, B)", z="b + F(a)"))

    def test_things_within_one_another(self):
        self.told("F(F(x))", "F(y)", way(x="a", y="F(a)"))
        self.told("F(F(x))", "F(F(A))", way(x="A"))
        self.told("F(x)", "F(F(x))")
        self.told("F(G(x, y))", "F(G(y, A))", way(x="A", y="A"))
        self.told("F(x) + x", "F(A) + y", way(x="A", y="A"), way(x="a + F(A)", y="a + F(a + F(A))"))
        self.told("x + F(y)", "y + F(x)", way(x="a", y="a"))
        self.told("x + F(y)", "G(y, x)")

    def test_a_way_that_is_put_into_its_things(self):
        self.told("x + G(y, z)", "F(y) + G(F(z), A)", way(x="F(F(A))", y="F(A)", z="A"))

    def test_sixty_and_twelve(self):
        told = self.check(read("3w + 3x"), read("2y + 2z"))
        self.assertEqual(len(told), 1)
        self.assertEqual(sum(size_of(form) for _, form in told[0]), 60)
        self.assertEqual(len(names_in(*[form for _, form in told[0]])), 12)


class Images(Checking):
    """Each way that makes two forms alike is an image of one that is told."""

    PAIRS = [("x + y", "A + F(A)"), ("x + A", "y + u"), ("F(x)", "F(y + A)"), ("F(x) + y", "F(y) + x"),
             ("x + y", "2A + u"), ("F(x) + F(y)", "F(A) + F(u)"), ("x + F(y)", "y + F(A)"), ("G(x, y)", "G(A, x)"),
             ("2x", "y + A"), ("x + y", "F(y) + A"), ("x + F(x)", "A + F(y)"), ("F(x + y)", "F(u + A)"),
             ("x + y", "F(A) + F(u)"), ("F(F(x))", "F(y)"), ("x + 2y", "3A"), ("G(x, F(y))", "G(F(y), x)"),
             ("x", "y"), ("x + F(0)", "y + F(y)"), ("F(x) + F(2x)", "F(y) + F(2y)"), ("x + y", "0")]

    def test_chosen_pairs(self):
        found = []
        for one, other in self.PAIRS:
            one, other = read(one), read(other)
            told = self.check(one, other)
            found.append(self.check_images(one, other, told, SMALL))
        self.assertEqual([pair for pair, many in zip(self.PAIRS, found) if many == 0], [])

    def test_made_pairs(self):
        found = ways = 0
        for seed in range(700):
            numbers = Numbers(seed)
            one, other = made_pair(numbers, ["x", "y", "z"][:1 + numbers.below(3)], 5)
            try:
                told = alike(one, other)
            except TooMany:
                continue
            self.check(one, other, told)
            self.equally_many(told, self.check(other, one), names_in(one, other))
            ways += len(told)
            found += self.check_images(one, other, told, SMALL[:12] if len(names_in(one, other)) <= 2 else SMALL[:8])
        self.assertGreater(ways, 200)
        self.assertGreater(found, 500)

    def test_made_of_images(self):
        for seed in range(150):
            numbers = Numbers(5000 + seed)
            one, other = made_pair(numbers, ["x", "y"], 5)
            try:
                told = alike(one, other)
            except TooMany:
                continue
            names = names_in(one, other)
            for found in told:
                more = tuple((name, SMALL[numbers.below(len(SMALL))])
                             for name in names_in(*[form for _, form in found]))
                made = tuple((name, put(form, more)) for name, form in found)
                self.assertEqual(replaced(one, dict(made)), replaced(other, dict(made)))
                self.assertTrue(self.shown_image(told, made, names))

    def test_the_ways_of_all_choices_are_images(self):
        for seed in range(200):
            one, other = made_pair(Numbers(8000 + seed), ["x", "y", "z"], 5)
            try:
                told = alike(one, other)
            except TooMany:
                continue
            for parting in partings(things_of(one, other)):
                for choice in choices(parting, one, other):
                    made = way_of(parting, choice, one, other)
                    if made is not None:
                        self.assertTrue(self.shown_image(told, made, names_in(one, other)))


class Bounds(Checking):
    def both(self, taken, refused):
        """Fails where the first pair is refused, or the second one isn't."""
        taken, refused = [tuple(read(text) for text in pair) for pair in (taken, refused)]
        told = self.check(*taken)
        self.equally_many(told, self.check(*taken[::-1]), names_in(*taken))
        self.refused(TooMany, alike, *refused)
        self.refused(TooMany, alike, *refused[::-1])
        return told

    def test_names(self):
        self.both(("w + x", "y + z"), ("v + w + x", "y + z"))
        self.both(("w + x + y + z", "0"), ("v + w + x + y + z", "0"))
        self.both(("F(w + F(x))", "F(y + F(z))"), ("F(v + F(w + x))", "F(y + F(z))"))
        self.both(("A + w + x + y + z", "B"), ("A + v + w + x + y + z", "B"))

    def test_things(self):
        self.both(("x", "A + B + C + D + E + F"), ("x", "A + B + C + D + E + F + G"))
        self.both(("A + B + C", "D + E + F"), ("A + B + C + G", "D + E + F"))
        self.both(("A + B + C + D + E + F", "F + E + D + C + B + A"), ("A + B + C + D + E + F", "A + B + C + G"))
        self.both(("F(A + B)", "G(C, D)"), ("F(A + B)", "G(C, D + E)"))
        self.both(("F(G(A, B))", "K(L(x))"), ("F(G(A, B))", "K(L(C))"))

    def test_counts(self):
        self.both(("3x", "3A"), ("3x", "4A"))
        self.both(("3x", "3y"), ("4x", "3y"))
        self.both(("3x", "3y"), ("3x + y", "4x + y"))
        self.both(("F(3x)", "F(3A)"), ("F(4x)", "F(3A)"))
        self.both(("F(F(3x + 3A))", "y"), ("F(F(3x + 4A))", "y"))
        self.both(("G(0, 3F(x))", "0"), ("G(0, 4F(x))", "0"))
        self.refused(TooMany, alike, read("4A"), read("4A"))
        self.refused(TooMany, alike, read("100A"), ())

    def test_partings(self):
        told = self.both(("F(w) + F(x)", "F(y) + F(z)"), ("F(w) + F(x) + F(0)", "F(y) + F(z)"))
        self.assertEqual(len(told), 2)
        two = "F(0) + F(A) + G(0, 0)"
        self.both((two, "G(A, 0)"), ("F(0) + F(x) + F(y) + G(0, 0)", "G(x, 0) + G(y, 0)"))

    def test_choices(self):
        told = self.both(("x + y", "3A + 2B + C"), ("x + y", "3A + 3B + C"))
        self.assertEqual(len(told), 24)
        told = self.both(("x + y", "2A + B + C + D"), ("x + y", "3A + B + C + D"))
        self.assertEqual(len(told), 24)

    def counted(self, one, other, *wanted):
        """Fails where the partings' choices aren't so many; tells the two forms."""
        one, other = read(one), read(other)
        found = [len(choices(parting, one, other)) for parting in partings(things_of(one, other))]
        self.assertEqual(sorted(found), list(wanted))
        return one, other

    def test_choices_of_all_partings_count_together(self):
        self.check(*self.counted("x + y + G(z, 0)", "2B + 3C + G(0, 0)", 0, 12))
        self.check(*self.counted("x + y + G(z, 0)", "2B + C + G(0, 0) + w", 6, 12))
        self.check(*self.counted("x + y + G(z, 0)", "3B + C + G(0, 0) + w", 8, 16))
        self.refused(TooMany, alike, *self.counted("x + y + G(z, 0)", "2B + 2C + G(0, 0) + w", 9, 18))
        self.refused(TooMany, alike, *self.counted("x + y + F(0)", "w + 3B + 2C + F(x)", 1, 24))
        self.refused(TooMany, why, *self.counted("x + y + F(0)", "w + 3B + 2C + F(x)", 1, 24))

    def test_choices_with_rounds_count_too(self):
        told = self.both(("x + y", "3F(x) + 2A + B"), ("x + y", "3F(x) + 3A + B"))
        self.assertEqual(len(told), 6)
        told = self.both(("x", "F(x)"), ("x + y", "3F(x) + 3F(y) + A"))
        self.assertEqual(told, [])

    def test_the_size_of_a_way(self):
        told = self.both(("x", "2A + 2F(3A) + 2G(3F(3A), 3F(3A))"), ("x", "3A + 2F(3A) + 2G(3F(3A), 3F(3A))"))
        self.assertEqual(size_of(told[0][0][1]), 60)
        half = "A + F(3A) + G(3F(3A), 3F(3A))"
        told = self.both(("K(x, y)", f"K({half}, {half})"), ("K(x, y)", f"K({half}, 2{half})"))
        self.assertEqual([size_of(form) for _, form in told[0]], [30, 30])
        self.both(("3w + 3x", "2y + 2z"), ("3w + 3x", "2y + 2z + A"))
        self.both(("3w + 3x + A", "2y + 2z + A"), ("3w + 3x + A", "2y + 2z + B"))

    def test_the_unknowns_of_a_way(self):
        self.both(("3w + 3x", "2y + 2z"), ("2w + 3x + F(3w)", "3y + 3z + F(2x)"))

    def test_a_way_counts_that_is_left_out_at_last(self):
        # The forms are equal: that y may be the great part, too, is an image of its being just an unknown.
        great = "K(y) + K(2A + 2F(3A) + 2G(3F(3A), 3F(3A)))"
        told = self.both((great, great), (great.replace("K(2A", "K(3A"), great.replace("K(2A", "K(3A")))
        self.assertEqual([[(item[0], count) for item, count in form] for _, form in told[0]], [[("any", 1)]])


class Kept(unittest.TestCase):
    def test_what_is_handed_in_stays(self):
        one, other = read("x + F(y)"), read("F(A) + y")
        alike(one, other)
        self.assertEqual((one, other), (read("x + F(y)"), read("F(A) + y")))

    def test_what_was_told_may_be_changed(self):
        one, other = read("x + y"), read("2A")
        told = alike(one, other)
        before = list(told)
        self.assertEqual(len(before), 3)
        told.clear()
        told.append(None)
        self.assertEqual(alike(one, other), before)

    def test_what_is_told_may_be_handed_on(self):
        one, other = read("x + F(y)"), read("F(A) + y")
        for found in alike(one, other):
            self.assertEqual(less(put(one, found), put(other, found)), ())


if __name__ == "__main__":
    unittest.main()
