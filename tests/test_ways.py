import unittest

from helper import Numbers, Refusing, check_form, made_term, mix, thing, way
from mixform.errors import TooMany
from mixform.forms import form_of, plus, times
from mixform.measures import depth, spread
from mixform.reader import read
from mixform.ways import chained, cut, has, put

GREAT = 10 ** 18


def names_in_row(many):
    return ["a" + chr(97 + at // 26) + chr(97 + at % 26) for at in range(many)]


def wide(many):
    """A form of that spread, of unknowns alone."""
    return tuple((("any", name), 1) for name in names_in_row(many))


def eight(part):
    """Eight things that have the form for a part, eight unlike signs."""
    return tuple((("of", sign, (part,)), 1) for sign in "ABCDEFGH")


def replaced(term, terms):
    """The term with terms put in for its unknowns."""
    if term[0] == "any":
        return terms.get(term[1], term)
    if term[0] == "of":
        return thing(term[1], *[replaced(part, terms) for part in term[2]])
    return mix(*[replaced(part, terms) for part in term[1]])


def made_terms(numbers):
    """Terms for some of the names that made terms have, and for one that they lack."""
    return {name: made_term(numbers, 2) for name in ("q", "x", "y", "z") if numbers.below(3)}


def way_of(terms):
    return tuple((name, form_of(term)) for name, term in sorted(terms.items()))


class Has(unittest.TestCase):
    def test_a_name_of_the_way(self):
        told = way(x="2A + y", y="0", z="z")
        self.assertEqual(has(told, "x"), read("2A + y"))
        self.assertEqual(has(told, "y"), ())
        self.assertEqual(has(told, "z"), read("z"))

    def test_a_name_that_it_lacks(self):
        self.assertEqual(has(way(x="2A + y"), "y"), ((("any", "y"), 1),))
        self.assertEqual(has(way(x="y"), "xx"), ((("any", "xx"), 1),))
        self.assertEqual(has((), "abcdef"), ((("any", "abcdef"), 1),))


class Put(Refusing):
    def told(self, text, wanted, **texts):
        self.assertEqual(put(read(text), way(**texts)), read(wanted))

    def test_at_the_top(self):
        self.told("x", "2A", x="2A")
        self.told("2x + y", "2A + 4B + y", x="A + 2B")
        self.told("x + A", "A", x="0")
        self.told("3x", "0", x="0")
        self.told("0", "0", x="A")

    def test_at_any_depth(self):
        self.told("F(x)", "F(2A)", x="2A")
        self.told("F(x, G(2x + y), H(0, F(x)))", "F(A + z, G(2A + 2z + y), H(0, F(A + z)))", x="A + z")
        self.told("x + F(G(x))", "y + F(G(y))", x="y")
        deep = "F(" * 19 + "x" + ")" * 19
        self.told(deep, deep.replace("x", "A + 2B"), x="A + 2B")

    def test_all_at_once(self):
        self.told("x + 2y + F(x, y)", "y + 2x + F(y, x)", x="y", y="x")
        self.told("x + y", "y + A", x="y", y="A")
        self.told("x", "F(x)", x="F(x)")
        self.told("2x + F(x)", "4x + 2A + F(2x + A)", x="2x + A")
        self.told("x + y + z", "x + y + z", x="y", y="z", z="x")

    def test_names_that_the_form_lacks(self):
        self.told("x + F(A)", "x + F(A)", y="A", z="0")
        self.told("x + F(A)", "2B + F(A)", a="z", x="2B", xx="C", z="0")
        self.told("x + F(A)", "x + F(A)")
        self.told("0", "0")

    def test_a_name_that_is_the_beginning_of_another_one(self):
        self.told("x + xx + F(xx)", "A + xx + F(xx)", x="A")
        self.told("x + xx + F(xx)", "x + A + F(A)", xx="A")

    def test_great_counts(self):
        form = ((("any", "x"), GREAT), (("any", "y"), 3))
        self.assertEqual(put(form, (("x", ((("any", "y"), GREAT),)),)), ((("any", "y"), GREAT ** 2 + 3),))
        inner = ((("of", "F", (((("any", "x"), GREAT),),)), GREAT),)
        wanted = ((("of", "F", (((("of", "A", ()), GREAT ** 2),),)), GREAT),)
        self.assertEqual(put(inner, (("x", ((("of", "A", ()), GREAT),)),)), wanted)

    def test_items_become_equal(self):
        self.told("x + y + 2A", "5A", x="A", y="2A")
        self.told("F(x) + 2F(y) + F(A)", "4F(A)", x="A", y="A")
        self.told("F(x + y) + F(2x)", "2F(2A)", x="A", y="A")
        self.told("F(G(x), y) + F(G(y), x)", "2F(G(z), z)", x="z", y="z")
        self.told("F(x) + F(0)", "2F(0)", x="0")

    def test_what_comes_is_in_order(self):
        self.told("F(x) + F(y)", "F(A) + F(B)", x="B", y="A")
        self.assertEqual(put(read("a + b"), way(a="z", b="c")), ((("any", "c"), 1), (("any", "z"), 1)))
        form = put(read("F(a, x) + F(b, x)"), way(a="B", b="0"))
        check_form(self, form)
        self.assertEqual(form, read("F(0, x) + F(B, x)"))

    def test_made_forms(self):
        for seed in range(300):
            numbers = Numbers(seed)
            term, terms = made_term(numbers, 4), made_terms(numbers)
            wanted = form_of(replaced(term, terms))
            if spread(wanted) <= 2000:
                told = put(form_of(term), way_of(terms))
                check_form(self, told)
                self.assertEqual(told, wanted)

    def test_a_spread_of_two_thousand(self):
        form = eight(((("any", "x"), 1),))
        told = put(form, (("x", wide(249)),))
        self.assertEqual(spread(told), 2000)
        self.assertEqual(told, eight(wide(249)))
        self.refused(TooMany, put, form, (("x", wide(250)),))
        more = plus(form, ((("any", "y"), 1),))
        self.refused(TooMany, put, more, (("x", wide(249)),))
        self.assertEqual(put(more, (("x", wide(249)), ("y", ()))), told)
        self.refused(TooMany, put, more, (("x", wide(249)), ("y", read("A"))))

    def test_two_thousand_at_the_top(self):
        form = ((("any", "x"), 5), (("any", "y"), GREAT))
        one = put(eight(((("any", "x"), 1),)), (("x", wide(249)),))
        self.assertEqual(put(form, (("x", one), ("y", one))), times(GREAT + 5, one))
        self.assertEqual(put(form, (("x", one), ("y", ()))), times(5, one))
        self.refused(TooMany, put, form, (("x", one),))
        self.refused(TooMany, put, form, (("x", one), ("y", read("z"))))

    def test_the_spread_is_that_of_what_comes(self):
        names = names_in_row(100)
        form = tuple((("any", name), 1) for name in names)
        alike = tuple((name, tuple((("of", sign, ()), 2) for sign in ("A", "B", "C"))) for name in names)
        self.assertEqual(put(form, alike), tuple((("of", sign, ()), 200) for sign in ("A", "B", "C")))
        inner = put(eight(((("any", "x"), 1),)), (("x", wide(248)),))
        part = plus(inner, wide(7))
        self.assertEqual(spread(part), 1999)
        told = put(read("G(x) + 3G(y)"), (("x", part), ("y", part)))
        self.assertEqual(told, ((("of", "G", (part,)), 4),))
        self.assertEqual(spread(told), 2000)
        self.refused(TooMany, put, read("G(x) + 3G(y) + z"), (("x", part), ("y", part)))
        self.refused(TooMany, put, read("G(x) + 3G(2y)"), (("x", part), ("y", part)))

    def test_far_above_the_bound(self):
        form = tuple((("of", "F" + name.upper(), (((("any", "x"), 1),),)), 1) for name in names_in_row(150))
        self.refused(TooMany, put, form, (("x", wide(300)),))
        form = read("F(x, x, x) + G(H(x, x), H(y, x))")
        self.refused(TooMany, put, form, (("x", eight(wide(249))), ("y", wide(300))))

    def test_forty_deep(self):
        text = "F(" * 20 + "x" + ")" * 20
        told = put(read(text), (("x", read(text)),))
        self.assertEqual(depth(told), 40)
        self.assertEqual(put(told, way(x="0")), put(read(text), (("x", put(read(text), way(x="0"))),)))


class Chained(Refusing):
    def told(self, one, other, wanted):
        self.assertEqual(chained(one, other), wanted)

    def test_one_and_then_the_other(self):
        self.told(way(x="y + A"), way(y="2B"), way(x="2B + A", y="2B"))
        self.told(way(y="2B"), way(x="y + A"), way(x="y + A", y="2B"))
        self.told(way(x="F(y)"), way(y="x"), way(x="F(x)", y="x"))
        self.told(way(x="F(2x)"), way(x="F(2x)"), way(x="F(2F(2x))"))

    def test_it_has_the_names_of_both(self):
        self.told(way(b="A", x="y"), way(a="B", y="x", z="0"), way(a="B", b="A", x="x", y="x", z="0"))
        self.told(way(x="y"), way(x="z"), way(x="y"))
        self.told(way(x="y"), way(y="x"), way(x="x", y="x"))

    def test_ways_of_no_names(self):
        self.told((), (), ())
        self.told(way(x="y + A"), (), way(x="y + A"))
        self.told((), way(x="y + A"), way(x="y + A"))

    def test_put_and_put_again(self):
        for seed in range(200):
            numbers = Numbers(seed)
            one, other = way_of(made_terms(numbers)), way_of(made_terms(numbers))
            both = chained(one, other)
            self.assertEqual([name for name, _ in both], sorted(dict(one + other)))
            for name, form in both:
                check_form(self, form)
                self.assertEqual(form, put(has(one, name), other))
            form = form_of(made_term(numbers, 3))
            self.assertEqual(put(form, both), put(put(form, one), other))

    def test_refused_where_one_of_its_forms_is(self):
        form = eight(((("any", "x"), 1),))
        self.assertEqual(chained((("y", form),), (("x", wide(249)),)), (("x", wide(249)), ("y", eight(wide(249)))))
        self.refused(TooMany, chained, (("y", form),), (("x", wide(250)),))
        self.refused(TooMany, chained, (("a", read("A")), ("y", form), ("z", ())), (("b", ()), ("x", wide(250))))
        # Each form counts by itself.
        self.assertEqual(len(chained((("v", form), ("w", form), ("y", form)), (("x", wide(249)),))), 4)


class Cut(unittest.TestCase):
    WAY = way(a="a", b="2b", c="0", d="a", e="e + 0", x="F(x)")

    def test_to_no_names(self):
        self.assertEqual(cut(self.WAY, []), ())
        self.assertEqual(cut(self.WAY, ()), ())
        self.assertEqual(cut((), ()), ())

    def test_to_some_names(self):
        self.assertEqual(cut(self.WAY, ["b", "c"]), way(b="2b", c="0"))
        self.assertEqual(cut(self.WAY, ["x"]), way(x="F(x)"))
        self.assertEqual(cut(self.WAY, ("x", "b", "x")), way(b="2b", x="F(x)"))

    def test_to_all_names(self):
        self.assertEqual(cut(self.WAY, ["a", "b", "c", "d", "e", "x"]), way(b="2b", c="0", d="a", x="F(x)"))
        self.assertEqual(cut(self.WAY, ["x", "e", "d", "c", "b", "a"]), way(b="2b", c="0", d="a", x="F(x)"))

    def test_to_names_that_it_lacks(self):
        self.assertEqual(cut(self.WAY, ["y", "xx", "b"]), way(b="2b"))
        self.assertEqual(cut(way(x="A", xx="B"), ["x"]), way(x="A"))
        self.assertEqual(cut(way(x="A", xx="B"), ["xx"]), way(xx="B"))
        self.assertEqual(cut((), ["x"]), ())

    def test_just_its_own_unknown_is_left_out(self):
        self.assertEqual(cut(way(a="a", b="b"), ["a", "b"]), ())
        self.assertEqual(cut(way(a="2a"), ["a"]), way(a="2a"))
        self.assertEqual(cut(way(a="b", b="a"), ["a", "b"]), way(a="b", b="a"))
        self.assertEqual(cut(way(a="a + A", b="b + c"), ["a", "b"]), way(a="a + A", b="b + c"))
        self.assertEqual(cut(way(a="A"), ["a"]), way(a="A"))

    def test_it_puts_in_the_same_for_these_names(self):
        for seed in range(100):
            numbers = Numbers(seed)
            whole = way_of(made_terms(numbers))
            names = [name for name in ("q", "x", "y", "z") if numbers.below(2)]
            part = cut(whole, names)
            for name in ("q", "x", "y", "z"):
                wanted = has(whole, name) if name in names else ((("any", name), 1),)
                self.assertEqual(has(part, name), wanted)


class Kept(unittest.TestCase):
    def test_what_is_handed_in_stays(self):
        form, one, other, names = read("x + F(y)"), way(x="2y"), way(y="F(x)"), ["x", "y"]
        for _ in range(2):
            self.assertEqual(has(one, "x"), read("2y"))
            self.assertEqual(put(form, one), read("2y + F(y)"))
            self.assertEqual(chained(one, other), way(x="2F(x)", y="F(x)"))
            self.assertEqual(cut(other, names), other)
        self.assertEqual((form, one, other, names), (read("x + F(y)"), way(x="2y"), way(y="F(x)"), ["x", "y"]))

    def test_what_is_told_are_tuples(self):
        for told in (put(read("x"), way(x="A")), put((), ()), chained(way(x="A"), ()), chained((), ()),
                     cut(way(x="A"), ["x"]), cut((), [])):
            self.assertIs(type(told), tuple)
        for pair in chained(way(x="A"), way(y="B")) + cut(way(x="A"), ["x"]):
            self.assertIs(type(pair), tuple)

    def test_three_hundred_names(self):
        names = names_in_row(300)
        shifted = tuple((name, ((("any", after), 1),)) for name, after in zip(names, names[1:] + names[:1]))
        form = tuple((("any", name), at + 1) for at, name in enumerate(names))
        self.assertEqual(spread(form), 300)
        self.assertEqual(put(form, shifted), tuple((item, at or 300) for at, (item, _) in enumerate(form)))
        self.assertEqual(chained(shifted, ()), shifted)
        self.assertEqual(cut(shifted, names), shifted)
        self.assertEqual(cut(shifted, names[:150]), shifted[:150])
        twice = chained(shifted, shifted)
        self.assertEqual(put(form, twice), put(put(form, shifted), shifted))


if __name__ == "__main__":
    unittest.main()
