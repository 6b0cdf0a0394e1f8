import unittest
from itertools import product

from helper import Numbers, check_form, made_form, names_in, pieces, replaced, size_of, way
from mixform.compare import few, further
from mixform.measures import size, unknowns
from mixform.reader import read
from mixform.ways import chained, has, put


def own_form(one, name):
    """What a way has for a name, by the document's words."""
    return dict(one).get(name, ((("any", name), 1),))


def is_image(one, other, names):
    """Whether other is an image of one, by walking all ways made of pieces of its forms."""
    patterns = [own_form(one, name) for name in names]
    forms = [own_form(other, name) for name in names]
    found = names_in(*patterns)
    made = sorted({piece for form in forms for piece in pieces(form)})
    for row in product(made, repeat=len(found)):
        put_in = dict(zip(found, row))
        if all(replaced(pattern, put_in) == form for pattern, form in zip(patterns, forms)):
            return True
    return False


def made_way(numbers, names, room):
    return tuple((name, made_form(numbers, ["u", "v", "x"], numbers.below(room + 1), "AF")) for name in names)


class Checking(unittest.TestCase):
    def image(self, one, other, names):
        """Fails where what is told isn't a further way by which other is an image of one."""
        told = further(one, other, names)
        self.assertIs(type(told), tuple, (one, other, names))
        self.assertEqual([name for name, _ in told], names_in(*[own_form(one, name) for name in names]))
        for name, form in told:
            check_form(self, form)
        for name in names:
            self.assertEqual(put(own_form(one, name), told), own_form(other, name))

    def no_image(self, one, other, names):
        self.assertIsNone(further(one, other, names))


class Further(Checking):
    def test_an_image(self):
        self.image(way(x="a + b"), way(x="2A"), ["x"])
        self.image(way(x="a + b", y="b"), way(x="2A + c", y="A"), ["x", "y"])
        self.image(way(x="F(a)", y="2a"), way(x="F(B + c)", y="2B + 2c"), ["x", "y"])
        self.assertEqual(further(way(x="F(a)", y="a + b"), way(x="F(A)", y="3A"), ["x", "y"]), way(a="A", b="2A"))

    def test_no_image(self):
        self.no_image(way(x="a + b", y="b"), way(x="2A", y="B"), ["x", "y"])
        self.no_image(way(x="2a"), way(x="A + B"), ["x"])
        self.no_image(way(x="F(a)"), way(x="a"), ["x"])
        self.no_image(way(x="F(a)", y="a"), way(x="F(A)", y="B"), ["x", "y"])
        self.no_image(way(x="A"), way(x="a"), ["x"])
        self.no_image(way(x="0"), way(x="a"), ["x"])
        self.no_image(way(x="a", y="a"), way(x="0", y="A"), ["x", "y"])

    def test_the_same_way(self):
        for one in ((), way(x="x"), way(x="2a + F(b)", y="b + A"), way(x="y", y="x")):
            self.image(one, one, ["x", "y"])

    def test_new_names(self):
        self.image(way(x="a + F(b)"), way(x="b + F(a)"), ["x"])
        self.image(way(x="a", y="b"), way(x="b", y="a"), ["x", "y"])
        self.image(way(x="a", y="b"), way(x="c", y="c"), ["x", "y"])
        self.no_image(way(x="c", y="c"), way(x="a", y="b"), ["x", "y"])

    def test_names_that_a_way_lacks(self):
        self.assertEqual(further((), way(x="2A"), ["x"]), way(x="2A"))
        self.assertEqual(further(way(x="y + A"), (), ["y"]), way(y="y"))
        self.image((), way(x="2y", y="F(x)"), ["x", "y", "z"])
        self.no_image(way(x="2A"), (), ["x"])
        self.image(way(x="y"), way(x="y"), ["x", "y"])
        self.image(way(x="y"), way(x="A", y="A"), ["x", "y"])
        self.no_image(way(x="y"), way(x="A"), ["x", "y"])
        self.no_image(way(x="y"), way(y="x", x="z"), ["x", "y"])
        self.image(way(x="y"), way(y="x"), ["x", "y"])

    def test_names_that_both_have_in_their_forms(self):
        self.image(way(x="x + y"), way(x="2x + y"), ["x"])
        self.image(way(x="F(x)"), way(x="F(F(x))"), ["x"])
        self.image(way(x="x", y="y"), way(x="y", y="x + y"), ["x", "y"])
        self.no_image(way(x="2x", y="x"), way(x="x + y", y="x"), ["x", "y"])

    def test_some_names_alone(self):
        one, other = way(x="a", y="a"), way(x="A", y="B")
        self.assertEqual(further(one, other, ["x"]), way(a="A"))
        self.assertEqual(further(one, other, ["y"]), way(a="B"))
        self.no_image(one, other, ["x", "y"])
        self.assertEqual(further(way(x="a", y="b"), way(x="A", y="B"), ["y"]), way(b="B"))

    def test_no_names(self):
        for one, other in ((way(x="A"), way(x="B")), ((), ()), (way(x="a"), ())):
            self.assertEqual(further(one, other, []), ())
            self.assertEqual(further(one, other, ()), ())

    def test_a_name_several_times_and_in_any_order(self):
        one, other = way(x="a + b", y="b"), way(x="2A + c", y="A")
        for names in (["y", "x"], ["x", "y", "x"], ("x", "x")):
            self.image(one, other, names)

    def test_made_images(self):
        for seed in range(300):
            numbers = Numbers(seed)
            names = ["x", "y", "z"][:1 + numbers.below(3)]
            one = tuple((name, made_form(numbers, ["u", "v", "w", "x"], numbers.below(15))) for name in names)
            lost = one[1:] if numbers.below(4) == 0 else one
            unknown = names_in(*[own_form(lost, name) for name in names])
            put_in = {name: made_form(numbers, ["u", "x", "s"], numbers.below(3)) for name in unknown}
            other = tuple((name, replaced(own_form(lost, name), put_in)) for name in names)
            if sum(size_of(form) for _, form in other) <= 60:
                self.image(lost, other, names)

    def test_all_ways_made_of_pieces(self):
        images = others = 0
        for seed in range(1500):
            numbers = Numbers(20000 + seed)
            names = ["x", "y"][:1 + numbers.below(2)]
            one, other = made_way(numbers, names, 4), made_way(numbers, names, 4)
            if is_image(one, other, names):
                self.image(one, other, names)
                images += 1
            else:
                self.no_image(one, other, names)
                others += 1
        self.assertGreater(min(images, others), 250)


class Great(Checking):
    """Ways of a size up to 60 with up to twelve unknowns."""

    NAMES = ["x" + letter for letter in "abcdefghijkl"]
    SIGNS = ["A" + letter for letter in "ABCDEFGHIJKL"]

    def sums(self, *parts):
        form = read(" + ".join(parts))
        self.assertLessEqual(size(form), 60)
        self.assertLessEqual(len(unknowns(form)), 12)
        return (("x", form),)

    def test_twelve_unknowns_in_a_sum(self):
        one = self.sums(*self.NAMES)
        self.image(one, self.sums("60A"), ["x"])
        self.image(one, self.sums(*[f"5{sign}" for sign in self.SIGNS]), ["x"])
        self.image(one, (), ["x"])
        self.image(one, way(x="0"), ["x"])

    def test_twelve_unknowns_twice_each(self):
        one = self.sums(*[f"2{name}" for name in self.NAMES])
        self.image(one, self.sums("60A"), ["x"])
        self.no_image(one, self.sums("59A"), ["x"])
        self.no_image(one, self.sums("30A", "29B"), ["x"])

    def test_twelve_things(self):
        one = self.sums(*[f"F(G({name}, B))" for name in self.NAMES])
        self.image(one, self.sums(*[f"F(G({sign}, B))" for sign in self.SIGNS]), ["x"])
        self.image(one, self.sums("12F(G(2A, B))"), ["x"])
        self.no_image(one, self.sums(*[f"F(G({sign}, B))" for sign in self.SIGNS[1:]] + ["F(G(A, 2B))"]), ["x"])

    def test_things_and_the_sum_of_their_parts(self):
        one = self.sums("K(" + " + ".join(self.NAMES[:7]) + ")", *[f"F({name})" for name in self.NAMES[:7]])
        things = ["F(0)", "F(A)"] + [f"F({count}A)" for count in range(2, 7)]
        self.image(one, self.sums("K(21A)", *things), ["x"])
        self.no_image(one, self.sums("K(20A)", *things), ["x"])

    def test_more_things_than_can_be_taken(self):
        one = self.sums(*[f"F(2{name})" for name in self.NAMES[:6]] + [f"2{name}" for name in self.NAMES[6:]])
        self.no_image(one, self.sums("2B", *[f"F(2{sign})" for sign in self.SIGNS]), ["x"])
        things = [f"F(2{sign})" for sign in self.SIGNS[:6]]
        self.image(one, self.sums("2B", "2F(2AG)", "2F(2AH)", *things), ["x"])

    def test_counts_as_numbers(self):
        great = ((("of", "A", ()), 10 ** 18), (("any", "b"), 10 ** 18))
        great = (("x", tuple(sorted(great))), ("y", read("2A")))
        self.image(way(x="a + c", y="2a"), great, ["x", "y"])
        self.image(way(x="2a + b + 3c + F(d)"), (("x", great[0][1] + read("F(A)")),), ["x"])
        self.no_image(way(x="a", y="a"), great, ["x", "y"])

    def test_a_chain_of_things(self):
        names, signs = self.NAMES, self.SIGNS
        one = self.sums(*[f"G({name}, {after})" for name, after in zip(names, names[1:] + names[:1])])
        two = [f"G({sign}, {after})" for sign, after in zip(signs, signs[1:] + signs[:1])]
        self.image(one, self.sums(*two), ["x"])
        two[5], two[11] = "G(AF, AA)", "G(AL, AG)"
        self.no_image(one, self.sums(*two), ["x"])


class Few(Checking):
    def check(self, ways, names):
        """Fails where what is told isn't as the document asks."""
        told = few(ways, names)
        self.assertIs(type(told), list)
        at = 0
        for one in told:
            at = list(ways).index(one, at) + 1
        for one in ways:
            self.assertTrue(any(further(left, one, names) is not None for left in told))
        for at, one in enumerate(told):
            for other in told[:at] + told[at + 1:]:
                self.assertIsNone(further(one, other, names))
        return told

    def test_none(self):
        self.assertEqual(few([], ["x"]), [])
        self.assertEqual(few((), []), [])

    def test_one(self):
        for one in ((), way(x="A"), way(x="a + b")):
            self.assertEqual(few([one], ["x"]), [one])

    def test_images_are_left_out(self):
        great, small, other = way(x="a + F(b)"), way(x="A + F(2A)"), way(x="a")
        self.assertEqual(few([great, small], ["x"]), [great])
        self.assertEqual(few([small, great], ["x"]), [great])
        self.assertEqual(few([small, great, other], ["x"]), [other])
        self.assertEqual(few([other, small, great], ["x"]), [other])
        self.assertEqual(few([great, other, small], ["x"]), [other])

    def test_they_stand_in_their_order(self):
        ways = [way(x="2B"), way(x="F(a)"), way(x="A"), way(x="F(A)"), way(x="2b"), way(x="G(0, 0)", y="A")]
        self.assertEqual(few(ways, ["x", "y"]), [way(x="F(a)"), way(x="A"), way(x="2b"), way(x="G(0, 0)", y="A")])
        self.assertEqual(few(ways[::-1], ["x", "y"]), [way(x="G(0, 0)", y="A"), way(x="2b"), way(x="A"), way(x="F(a)")])

    def test_images_of_one_another(self):
        ways = [way(x="a + b"), way(x="b"), way(x="2c + d + A"), way(x="x")]
        told = self.check(ways, ["x"])
        self.assertEqual(len(told), 1)
        self.assertIn(told[0], [way(x="a + b"), way(x="b"), way(x="x")])
        self.assertEqual(len(self.check([way(x="a", y="b"), way(x="b", y="a")], ["x", "y"])), 1)

    def test_the_same_way_twice(self):
        one, other = way(x="A"), way(x="2a")
        self.assertEqual(few([one, one], ["x"]), [one])
        self.assertEqual(sorted(few([one, other, one, other], ["x"])), sorted([one, other]))

    def test_for_no_names_and_for_some(self):
        ways = [way(x="A", y="A"), way(x="A", y="B")]
        self.assertEqual(len(few(ways, [])), 1)
        self.assertEqual(len(few(ways, ["x"])), 1)
        self.assertEqual(few(ways, ["y"]), ways)
        self.assertEqual(few(ways, ["y", "x"]), ways)

    def test_names_that_a_way_lacks(self):
        self.assertEqual(few([way(x="A"), (), way(y="B")], ["x", "y"]), [()])
        self.assertEqual(few([way(x="A"), way(y="A")], ["x", "y"]), [way(x="A"), way(y="A")])

    def test_made_lists(self):
        for seed in range(150):
            numbers = Numbers(40000 + seed)
            names = ["x", "y"][:1 + numbers.below(2)]
            ways = [made_way(numbers, names, 4) for _ in range(numbers.below(7))]
            if ways and numbers.below(2):
                ways.insert(numbers.below(len(ways)), ways[0])
            told = self.check(ways, names)
            self.assertEqual(few(tuple(ways), tuple(names)), told)


class Kept(unittest.TestCase):
    def test_lists_and_tuples(self):
        one, other = way(x="a + b", y="b"), way(x="2A + c", y="A")
        self.assertEqual(further(one, other, ("x", "y")), further(one, other, ["x", "y"]))
        self.assertEqual(few((other, one), ("x", "y")), few([other, one], ["x", "y"]))

    def test_what_is_handed_in_stays(self):
        ways, names = [way(x="A"), way(x="a"), way(x="B")], ["x"]
        few(ways, names)
        further(ways[0], ways[1], names)
        self.assertEqual((ways, names), ([way(x="A"), way(x="a"), way(x="B")], ["x"]))

    def test_what_was_told_may_be_changed(self):
        ways = [way(x="A"), way(x="B")]
        told = few(ways, ["x"])
        told.clear()
        told.append(None)
        self.assertEqual(ways, [way(x="A"), way(x="B")])
        self.assertEqual(few(ways, ["x"]), ways)

    def test_what_is_told_may_be_handed_on(self):
        one, other = way(x="F(a) + b", y="2b"), way(x="F(A) + c + A", y="2c + 2A")
        both = chained(one, further(one, other, ["x", "y"]))
        self.assertEqual([has(both, name) for name in ("x", "y")], [has(other, name) for name in ("x", "y")])


if __name__ == "__main__":
    unittest.main()
