import unittest
from itertools import product

from helper import Numbers, Refusing, made_form, names_in, things_in
from mixform.errors import TooMany
from mixform.measures import things, unknowns
from mixform.partings import names_of, partings, things_of
from mixform.reader import read


def kind(thing):
    return thing[1], len(thing[2])


def walked(items):
    """All partings, by giving each thing a number in all ways."""
    found = set()
    for numbers in product(range(len(items)), repeat=len(items)):
        groups = [tuple(item for item, own in zip(items, numbers) if own == number) for number in sorted(set(numbers))]
        if all(len({kind(item) for item in group}) == 1 for group in groups):
            found.add(tuple(sorted(groups)))
    return sorted(found)


def listed(text):
    """The things at the top of a form, sorted, each once."""
    return tuple(item for item, _ in read(text))


class Names(unittest.TestCase):
    def test_of_both_at_any_depth(self):
        self.assertEqual(names_of(read("x + F(y)"), read("G(0, F(w + 2A))")), ("w", "x", "y"))
        self.assertEqual(names_of(read("F(F(F(b)))"), read("a")), ("a", "b"))

    def test_each_once_and_sorted(self):
        self.assertEqual(names_of(read("z + 2y + F(y)"), read("y + x + F(z)")), ("x", "y", "z"))
        self.assertEqual(names_of(read("b + ab + a"), read("abc + aa")), ("a", "aa", "ab", "abc", "b"))

    def test_none(self):
        self.assertEqual(names_of((), ()), ())
        self.assertEqual(names_of(read("A + F(B)"), read("G(0, C)")), ())
        self.assertEqual(names_of((), read("x")), ("x",))
        self.assertEqual(names_of(read("x"), ()), ("x",))

    def test_made_forms(self):
        for seed in range(100):
            numbers = Numbers(seed)
            one, other = [made_form(numbers, ["x", "b", "yy"], 12) for _ in range(2)]
            told = names_of(one, other)
            self.assertIs(type(told), tuple)
            self.assertEqual(list(told), names_in(one, other))
            self.assertEqual(names_of(other, one), told)
            self.assertEqual(names_of(one, one), unknowns(one))


class Things(unittest.TestCase):
    def test_of_both_at_any_depth(self):
        wanted = ("A", "B", "F(A)", "F(x + F(A))", "G(0, B)")
        self.assertEqual(things_of(read("x + F(F(A) + x)"), read("2G(0, B) + 2A")), listed(" + ".join(wanted)))

    def test_each_once_and_sorted(self):
        self.assertEqual(things_of(read("B + 2A"), read("A + 3B + F(A)")), listed("A + B + F(A)"))
        wanted = listed("F + F(x) + F(2x) + F(0, x)")
        self.assertEqual(things_of(read("F(2x) + F(x)"), read("F + F(0, x) + F(2x)")), wanted)

    def test_none(self):
        self.assertEqual(things_of((), ()), ())
        self.assertEqual(things_of(read("x + 2y"), read("z")), ())

    def test_made_forms(self):
        for seed in range(100):
            numbers = Numbers(seed)
            one, other = [made_form(numbers, ["x", "y"], 12) for _ in range(2)]
            told = things_of(one, other)
            self.assertIs(type(told), tuple)
            self.assertEqual(list(told), things_in(one, other))
            self.assertEqual(things_of(other, one), told)
            self.assertEqual(things_of(one, one), things(one))

    def test_deep(self):
        deep = read("F(" * 20 + "x" + ")" * 20)
        self.assertEqual(len(things_of(deep, read("F(" * 19 + "y" + ")" * 19))), 39)


class Partings(Refusing):
    def told(self, text, *wanted):
        self.assertEqual(partings(listed(text)), [tuple(listed(group) for group in parting) for parting in wanted])

    def test_no_thing(self):
        self.assertEqual(partings(()), [()])
        self.assertEqual(partings([]), [()])

    def test_one_thing(self):
        self.told("A", ["A"])
        self.told("F(x)", ["F(x)"])

    def test_things_of_one_kind(self):
        self.told("F(x) + F(A)", ["F(x)", "F(A)"], ["F(x) + F(A)"])
        self.told("F(0) + F(x) + F(A)", ["F(0)", "F(x)", "F(A)"], ["F(0)", "F(x) + F(A)"], ["F(0) + F(x)", "F(A)"],
                  ["F(0) + F(x) + F(A)"], ["F(0) + F(A)", "F(x)"])

    def test_things_of_several_kinds(self):
        self.told("A + B + F(x)", ["A", "B", "F(x)"])
        self.told("F + F(x) + F(x, y) + F(x, y, z)", ["F", "F(x)", "F(x, y)", "F(x, y, z)"])
        self.told("F(x) + F(y) + F(0, x)", ["F(0, x)", "F(x)", "F(y)"], ["F(0, x)", "F(x) + F(y)"])

    def test_things_within_one_another(self):
        items = things(read("F(F(x))"))
        self.assertEqual(partings(items), walked(items))
        self.assertEqual(len(partings(items)), 2)
        items = things(read("F(F(F(x))) + G(F(x), 0)"))
        self.assertEqual(partings(items), walked(items))
        self.assertEqual(len(partings(items)), 5)

    def test_all_partings_made_by_numbers(self):
        for text in ("F(0) + F(x) + F(A)", "F(x) + F(y) + G(x, y) + G(y, x)", "A + F(0) + F(x) + F(y) + F(A)",
                     "F(0) + F(x) + F(y) + G(0, 0) + G(0, x)",
                     "F(x) + F(y) + G(0, x) + G(x, 0) + H(x, 0, 0) + H(y, 0, 0)"):
            items = listed(text)
            told = partings(items)
            self.assertIs(type(told), list)
            self.assertEqual(told, walked(items))

    def test_made_things(self):
        for seed in range(80):
            numbers = Numbers(seed)
            items = tuple(things_in(made_form(numbers, ["x", "y"], 8), made_form(numbers, ["x", "y"], 5)))[:6]
            wanted = walked(items)
            if len(wanted) <= 15:
                self.assertEqual(partings(items), wanted)
            else:
                self.refused(TooMany, partings, items)

    def test_eight_things_and_nine(self):
        eight = listed("A + B + C + D + E + F + G + H")
        self.assertEqual(partings(eight), [tuple((item,) for item in eight)])
        nine = listed("A + B + C + D + E + F + G + H + I")
        self.refused(TooMany, partings, nine)
        self.refused(TooMany, partings, list(nine))
        self.assertEqual(len(partings(listed("A + B + C + D + F(0) + F(x) + F(y) + F(z)"))), 15)
        self.refused(TooMany, partings, listed("A + B + C + D + E + F(0) + F(x) + F(y) + F(z)"))

    def test_fifteen_partings_and_more(self):
        self.assertEqual(len(partings(listed("F(0) + F(x) + F(y) + F(z)"))), 15)
        self.assertEqual(len(partings(listed("F(0) + F(x) + F(y) + G(0, 0) + G(0, x)"))), 10)
        two = "F(0) + F(x) + G(0, 0) + G(0, x) + H(0, 0, 0) + H(0, 0, x)"
        self.assertEqual(len(partings(listed(two))), 8)
        self.refused(TooMany, partings, listed(two + " + K(0) + K(x)"))
        self.refused(TooMany, partings, listed("F(0) + F(x) + F(y) + G(0, 0) + G(0, x) + G(x, x)"))
        self.refused(TooMany, partings, listed("F(0) + F(x) + F(y) + F(z) + F(A)"))
        self.refused(TooMany, partings, listed("F(0) + F(x) + F(y) + F(z) + F(A) + F(B) + F(C) + F(D)"))
        self.refused(TooMany, partings, listed("F(0) + F(x) + F(y) + F(z) + G(0, 0) + G(0, x)"))


class Kept(unittest.TestCase):
    def test_lists_and_tuples(self):
        items = listed("F(x) + F(y) + G(0, 0)")
        self.assertEqual(partings(list(items)), partings(items))
        for parting in partings(list(items)):
            self.assertIs(type(parting), tuple)
            for group in parting:
                self.assertIs(type(group), tuple)

    def test_what_is_handed_in_stays(self):
        items = list(listed("F(x) + F(y) + G(0, 0)"))
        partings(items)
        self.assertEqual(items, list(listed("F(x) + F(y) + G(0, 0)")))

    def test_what_was_told_may_be_changed(self):
        items = listed("F(x) + F(y)")
        told = partings(items)
        before = list(told)
        told.reverse()
        told.append(None)
        self.assertEqual(partings(items), before)

    def test_what_is_told_may_be_handed_on(self):
        self.assertEqual(len(partings(things_of(read("F(x) + A"), read("F(A)")))), 2)


if __name__ == "__main__":
    unittest.main()
