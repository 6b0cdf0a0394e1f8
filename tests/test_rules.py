import unittest
from collections import Counter
from itertools import product

from helper import Numbers, Refusing, check_form, made_form, names_in, pieces, replaced, size_of, way
from mixform.errors import NoRule, TooMany
from mixform.forms import less, plus
from mixform.measures import spread
from mixform.reader import read
from mixform.rules import form_at, rule, uses
from mixform.ways import put


def item(text):
    """The one item of a form."""
    return read(text)[0][0]


def place(*pairs):
    return tuple((item(text), part) for text, part in pairs)


def use(where, found, rest, result):
    return where, found, read(rest), read(result)


def all_places(form):
    """All places in a form with the forms there and a deed that puts another form there."""
    found = [((), form, lambda new: new)]
    for thing, _ in form:
        if thing[0] == "of":
            for part in range(len(thing[2])):
                for inner, own, deed in all_places(thing[2][part]):
                    found.append((((thing, part),) + inner, own, changed(form, thing, part, deed)))
    return found


def changed(form, thing, part, deed):
    """A deed that changes one such thing of the form, by a Counter."""
    def done(new):
        parts = list(thing[2])
        parts[part] = deed(new)
        whole = Counter(dict(form))
        whole[thing] -= 1
        whole[("of", thing[1], tuple(parts))] += 1
        return tuple(sorted((own, count) for own, count in whole.items() if count))
    return done


def walked(left, right, form):
    """All uses, by walking all places and all ways made of pieces of the form there."""
    names, found = names_in(left), []
    for where, own, deed in all_places(form):
        for forms in product(pieces(own), repeat=len(names)):
            made = dict(zip(names, forms))
            rest = less(own, replaced(left, made))
            if rest is not None:
                found.append((where, tuple(made.items()), rest, deed(plus(replaced(right, made), rest))))
    return sorted(found)


class Rules(Refusing):
    def test_the_tuple(self):
        for left, right in (("x", "x"), ("A", "0"), ("A + x", "2x"), ("F(x, y)", "x + G(y, x)"), ("F(G(x, 0))", "x"),
                            ("2x + A", "F(F(x))"), ("A", "B")):
            told = rule(read(left), read(right))
            self.assertIs(type(told), tuple)
            self.assertEqual(told, (read(left), read(right)))

    def test_a_left_of_nothing(self):
        for right in ("0", "A", "x"):
            self.refused(NoRule, rule, (), read(right))

    def test_a_right_with_an_unknown_that_the_left_lacks(self):
        for left, right in (("A", "x"), ("x", "y"), ("x", "x + y"), ("A", "F(x)"), ("x", "F(G(0, x + y))"),
                            ("F(x)", "F(F(xx))"), ("x + y", "z"), ("X", "x")):
            self.refused(NoRule, rule, read(left), read(right))

    def test_an_unknown_that_the_left_has_at_another_depth(self):
        for left, right in (("F(x)", "x"), ("x", "F(F(x))"), ("G(F(x), y)", "y + F(y) + 2x")):
            self.assertEqual(rule(read(left), read(right)), (read(left), read(right)))

    def test_more_unknowns_than_can_be_used(self):
        self.assertEqual(rule(read("x + y + z"), read("z")), (read("x + y + z"), read("z")))


class Places(unittest.TestCase):
    FORM = read("2x + F(A + G(B, F(0))) + F(C)")

    def test_no_pair(self):
        self.assertEqual(form_at(self.FORM, ()), self.FORM)
        self.assertEqual(form_at((), ()), ())

    def test_one_pair(self):
        self.assertEqual(form_at(self.FORM, place(("F(C)", 0))), read("C"))
        self.assertEqual(form_at(self.FORM, place(("F(A + G(B, F(0)))", 0))), read("A + G(B, F(0))"))

    def test_several_pairs(self):
        one, two = ("F(A + G(B, F(0)))", 0), ("G(B, F(0))", 0)
        self.assertEqual(form_at(self.FORM, place(one, two)), read("B"))
        self.assertEqual(form_at(self.FORM, place(one, ("G(B, F(0))", 1))), read("F(0)"))
        self.assertEqual(form_at(self.FORM, place(one, ("G(B, F(0))", 1), ("F(0)", 0))), ())

    def test_deep(self):
        form = read("F(" * 20 + "x" + ")" * 20)
        where = ()
        for deep in range(20, 0, -1):
            where += place(("F(" * deep + "x" + ")" * deep, 0))
        self.assertEqual(form_at(form, where), read("x"))
        self.assertEqual(form_at(form, where[:19]), read("F(x)"))

    def test_made_forms(self):
        for seed in range(60):
            form = made_form(Numbers(seed), ["x"], 12, "AFGH")
            for where, own, _ in all_places(form):
                self.assertEqual(form_at(form, where), own)


class Uses(unittest.TestCase):
    def told(self, left, right, form, *wanted):
        self.assertEqual(uses(rule(read(left), read(right)), read(form)), sorted(wanted))

    def test_none(self):
        self.told("A", "B", "0")
        self.told("A", "B", "B + F(x)")
        self.told("2A", "B", "A + F(A)")
        self.told("F(x)", "x", "G(A, B) + F")

    def test_at_the_top(self):
        self.told("A", "B", "A", use((), (), "0", "B"))
        self.told("A", "B", "3A + C", use((), (), "2A + C", "2A + B + C"))
        self.told("2A", "0", "2A", use((), (), "0", "0"))
        self.told("A + B", "C", "2A + B", use((), (), "A", "A + C"))
        self.told("F(x)", "x", "F(2A) + B", use((), way(x="2A"), "B", "2A + B"))

    def test_on_a_part_of_a_heap(self):
        self.told("A + x", "2x", "A + B", use((), way(x="0"), "B", "B"), use((), way(x="B"), "0", "2B"))
        self.told("2x", "x", "3A", use((), way(x="0"), "3A", "3A"), use((), way(x="A"), "A", "2A"))

    def test_at_places_within(self):
        self.told("A", "B", "F(A)", use(place(("F(A)", 0)), (), "0", "F(B)"))
        self.told("A", "B", "G(A, 2A) + A", use((), (), "G(A, 2A)", "G(A, 2A) + B"),
                  use(place(("G(A, 2A)", 0)), (), "0", "A + G(B, 2A)"),
                  use(place(("G(A, 2A)", 1)), (), "A", "A + G(A, A + B)"))
        self.told("A", "0", "F(G(0, A + x))",
                  use(place(("F(G(0, A + x))", 0), ("G(0, A + x)", 1)), (), "x", "F(G(0, x))"))

    def test_just_one_of_several_is_changed(self):
        self.told("A", "B", "3F(A)", use(place(("F(A)", 0)), (), "0", "2F(A) + F(B)"))
        self.told("A", "B", "2F(A) + F(B)", use(place(("F(A)", 0)), (), "0", "F(A) + 2F(B)"))
        self.told("A", "B", "2F(2G(A, 0))", use(place(("F(2G(A, 0))", 0), ("G(A, 0)", 0)), (), "0",
                                               "F(2G(A, 0)) + F(G(A, 0) + G(B, 0))"))
        self.told("A", "0", "2F(2A)", use(place(("F(2A)", 0)), (), "A", "F(A) + F(2A)"))

    def test_a_left_that_becomes_nothing(self):
        self.told("x", "A", "0", use((), way(x="0"), "0", "A"))
        self.told("x", "A", "B", use((), way(x="0"), "B", "A + B"), use((), way(x="B"), "0", "A"))
        self.told("2x", "A", "B", use((), way(x="0"), "B", "A + B"))

    def test_parts_that_are_nothing_are_places(self):
        self.told("x", "A", "F(0)", use((), way(x="0"), "F(0)", "A + F(0)"), use((), way(x="F(0)"), "0", "A"),
                  use(place(("F(0)", 0)), way(x="0"), "0", "F(A)"))
        self.told("2x", "A", "G(0, 0)", use((), way(x="0"), "G(0, 0)", "A + G(0, 0)"),
                  use(place(("G(0, 0)", 0)), way(x="0"), "0", "G(A, 0)"),
                  use(place(("G(0, 0)", 1)), way(x="0"), "0", "G(0, A)"))

    def test_unknowns_of_the_form_stay(self):
        self.told("F(x)", "x", "F(x) + x", use((), way(x="x"), "x", "2x"))
        self.told("A", "B", "x + A", use((), (), "x", "x + B"))
        self.told("x + A", "2x", "x + A", use((), way(x="0"), "x", "x"), use((), way(x="x"), "0", "2x"))
        self.told("F(r)", "r", "F(r + rr) + r", use((), way(r="r + rr"), "r", "2r + rr"))
        self.told("G(r, rr)", "rr", "G(A, B) + rrr", use((), way(r="A", rr="B"), "rrr", "B + rrr"))

    def test_the_result_is_a_form(self):
        self.told("A", "F(0)", "A + B + F(0)", use((), (), "B + F(0)", "B + 2F(0)"))
        self.told("A", "0", "F(A) + F(0)", use(place(("F(A)", 0)), (), "0", "2F(0)"))


class Walked(unittest.TestCase):
    """What is told set against all places and all ways made of pieces of the form there."""

    def check(self, left, right, form):
        wanted = walked(left, right, form)
        if len(wanted) > 300:
            return 0
        one = rule(left, right)
        told = uses(one, form)
        self.assertIs(type(told), list)
        self.assertEqual(told, wanted)
        for where, found, rest, result in told:
            self.assertEqual([name for name, _ in found], names_in(left))
            self.assertEqual(plus(put(left, found), rest), form_at(form, where))
            check_form(self, rest)
            check_form(self, result)
        for each in told:
            self.assertIs(type(each), tuple)
        return len(told)

    def test_made_rules(self):
        found = 0
        for seed in range(900):
            numbers = Numbers(seed)
            left = made_form(numbers, ["x", "y"][:numbers.below(3)], 3, "AF")
            right = made_form(numbers, names_in(left), 4)
            form = made_form(numbers, ["x", "v"], 8, "AFG")
            if left and len(pieces(form)) ** len(names_in(left)) <= 1500:
                found += self.check(left, right, form)
        self.assertGreater(found, 1200)

    def test_rules_that_can_be_used(self):
        found = 0
        for seed in range(500):
            numbers = Numbers(4000 + seed)
            left = made_form(numbers, ["x", "y"], 4, "AFG")
            right = made_form(numbers, names_in(left), 4)
            made = {name: made_form(numbers, ["x"], 2, "A") for name in names_in(left)}
            form = plus(replaced(left, made), made_form(numbers, ["x"], 2, "A"))
            if numbers.below(2):
                form = ((("of", "F", (form,)), 1 + numbers.below(2)),)
            if left and size_of(form) <= 10 and len(pieces(form)) ** len(names_in(left)) <= 1500:
                self.assertGreater(len(walked(left, right, form)), 0)
                found += self.check(left, right, form)
        self.assertGreater(found, 1000)


class Bounds(Refusing):
    def test_the_form_size(self):
        one = rule(read("A"), read("B"))
        self.assertEqual(len(uses(one, read("10A"))), 1)
        self.assertEqual(len(uses(one, read("2F(A, 3B)"))), 1)
        self.assertEqual(uses(one, read("10C")), [])
        for text in ("11A", "11C", "2F(A, 3B) + C", "F(10x)", "20A"):
            self.refused(TooMany, uses, one, read(text))

    def test_the_left_unknowns(self):
        self.assertEqual(len(uses(rule(read("x + y"), ()), ())), 1)
        self.assertEqual(uses(rule(read("F(x, y)"), read("x")), read("A")), [])
        for left in ("x + y + z", "F(x, y, z)", "F(F(x) + F(y)) + z", "A + G(x + y, z)"):
            self.refused(TooMany, uses, rule(read(left), ()), ())
            self.refused(TooMany, uses, rule(read(left), ()), read("A"))

    def test_three_hundred_uses(self):
        one = rule(read("x + y"), read("x"))
        # A count c is shared out among x, y and the rest in (c + 1) * (c + 2) / 2 ways: 10 * 10 * 3.
        told = uses(one, read("3A + 3B + C"))
        self.assertEqual(len(told), 300)
        self.assertEqual(told, sorted(told))
        self.refused(TooMany, uses, one, read("5A + 4B"))
        self.refused(TooMany, uses, one, read("A + B + C + D + E + F + G + H + I + J"))

    def test_uses_at_all_places_count_together(self):
        one = rule(read("x + y"), read("x"))
        self.assertEqual(len(uses(one, read("F(5A)"))), 3 + 21)
        self.assertEqual(len(uses(one, read("3A + 2B + F(2C)"))), 10 * 6 * 3 + 6)
        self.assertEqual(len(uses(one, read("2A + 2B + F(A + B + C)"))), 6 * 6 * 3 + 27)
        # At the top 10 * 10 * 3, and one more within the thing.
        self.refused(TooMany, uses, one, read("3A + 3B + F(0)"))
        self.refused(TooMany, uses, one, read("F(3A + 3B + C)"))

    def test_what_right_becomes(self):
        nine = "A + B + C + D + E + F + G + H + I"
        things = [("of", "P" + chr(65 + at // 26) + chr(65 + at % 26), (read("x"),) * 3) for at in range(71)]
        more = [("of", "Q" + chr(65 + at), ()) for at in range(13)]
        left, form = read("Z(x)"), read(f"Z({nine})")
        right = tuple(sorted((thing, 1) for thing in things + more[:12]))
        self.assertEqual(spread(right), 296)
        told = uses(rule(left, right), form)
        self.assertEqual([found for _, found, _, _ in told], [(("x", read(nine)),)])
        self.assertEqual(spread(told[0][3]), 2000)
        right = tuple(sorted((thing, 1) for thing in things + more))
        self.refused(TooMany, uses, rule(left, right), form)
        # Where there is no use, nothing becomes too great.
        self.assertEqual(uses(rule(left, right), read(nine)), [])

    def test_only_what_right_becomes_is_asked(self):
        eight = "A + B + C + D + E + F + G + H"
        things = [("of", "P" + chr(65 + at // 26) + chr(65 + at % 26), (read("x"),) * 3) for at in range(80)]
        right = tuple((thing, 1) for thing in things)
        for form in (f"Y + Z({eight})", f"F(Z({eight}))"):
            told = uses(rule(read("Z(x)"), right), read(form))
            self.assertEqual([spread(result) for _, _, _, result in told], [2001])
            self.refused(TooMany, uses, rule(read("Z(x)"), right + read("Q")), read(form))


class Kept(unittest.TestCase):
    def test_what_is_handed_in_stays(self):
        one, form = rule(read("A + x"), read("2x")), read("2A + F(A + B)")
        uses(one, form)
        self.assertEqual((one, form), ((read("A + x"), read("2x")), read("2A + F(A + B)")))

    def test_what_was_told_may_be_changed(self):
        one, form = rule(read("A + x"), read("2x")), read("2A + F(A + B)")
        told = uses(one, form)
        before = list(told)
        self.assertGreater(len(before), 3)
        told.clear()
        told.append(None)
        self.assertEqual(uses(one, form), before)

    def test_what_is_told_may_be_handed_on(self):
        one = rule(read("A"), read("F(A)"))
        form = read("A")
        for _ in range(8):
            (_, _, _, form), = uses(one, form)
        self.assertEqual(form, read("F(" * 8 + "A" + ")" * 8))


if __name__ == "__main__":
    unittest.main()
