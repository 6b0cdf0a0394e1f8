import unittest
from collections import Counter
from itertools import product

from helper import (Numbers, Refusing, check_form, classes, goes_round, has_round, made_form, made_pair, names_in,
                    replaced, things_in, way)
from mixform.choices import bonds, choices, equations, right_of, round_of, way_of
from mixform.errors import TooMany
from mixform.forms import plus, times
from mixform.leasts import least, least_to
from mixform.measures import spread
from mixform.partings import names_of, partings, things_of
from mixform.reader import read
from mixform.ways import put


def pairs(*texts):
    return [tuple(read(text) for text in pair) for pair in texts]


def made_partings(seed, signs="AFG"):
    """Two made forms with each of their partings, as far as these are not too many."""
    numbers = Numbers(seed)
    one, other = made_pair(numbers, ["x", "y", "z"][:1 + numbers.below(3)], 6, signs)
    try:
        return one, other, partings(things_of(one, other))
    except TooMany:
        return one, other, []


def made_choices(seeds, signs="AFG"):
    """Made forms with their partings and choices, told as tuples (one, other, parting, choice)."""
    for seed in seeds:
        one, other, told = made_partings(seed, signs)
        for parting in told:
            try:
                found = choices(parting, one, other)
            except TooMany:
                found = []
            for choice in found[:10]:
                yield one, other, parting, choice


class Bonds(unittest.TestCase):
    def test_no_class(self):
        self.assertEqual(bonds((), read("x"), read("2y")), pairs(("x", "2y")))
        self.assertEqual(bonds((), (), ()), [((), ())])

    def test_classes_of_one_thing(self):
        one, other = read("F(x)"), read("A")
        self.assertEqual(bonds(classes("A", "F(x)"), one, other), [(one, other)])

    def test_class_by_class_thing_by_thing_part_by_part(self):
        one, other = read("F(x) + F(y) + F(A)"), read("G(x, y) + G(2x, A)")
        parting = classes("A", "F(x) + F(y) + F(A)", "G(x, y) + G(2x, A)")
        inner = pairs(("x", "y"), ("x", "A"), ("x", "2x"), ("y", "A"))
        self.assertEqual(bonds(parting, one, other), [(one, other)] + inner)
        parting = classes("H(0, x, A) + H(x, x, 2A)", "F(x)")
        self.assertEqual(bonds(parting, one, other), [(one, other)] + pairs(("0", "x"), ("x", "x"), ("A", "2A")))

    def test_things_without_parts(self):
        self.assertEqual(bonds((), read("A"), read("A")), pairs(("A", "A")))
        self.assertEqual(bonds(classes("A"), read("A"), ()), pairs(("A", "0")))

    def test_what_is_told(self):
        told = bonds(classes("F(x) + F(y)"), read("F(x)"), read("F(y)"))
        self.assertIs(type(told), list)
        self.assertEqual([type(pair) for pair in told], [tuple, tuple])


class Equations(unittest.TestCase):
    def test_a_row_for_each_bond(self):
        bonded = pairs(("x + 2y", "3z + y"), ("A", "x"), ("0", "0"))
        self.assertEqual(equations(bonded, ["x", "y", "z"]), [(1, 1, -3), (-1, 0, 0), (0, 0, 0)])
        self.assertEqual(equations(bonded, ["x"]), [(1,), (-1,), (0,)])
        self.assertEqual(equations(pairs(("w + z", "2x + 2y")), ["w", "x", "y", "z"]), [(1, -2, -2, 1)])

    def test_names_in_their_order(self):
        self.assertEqual(equations(pairs(("x + 2y", "0")), ["y", "x"]), [(2, 1)])

    def test_no_names_and_no_bonds(self):
        self.assertEqual(equations(pairs(("A", "B"), ("0", "A")), []), [(), ()])
        self.assertEqual(equations([], ["x"]), [])
        self.assertEqual(equations((), ()), [])

    def test_at_the_top_alone(self):
        self.assertEqual(equations(pairs(("F(2x) + x", "G(x, 3x)")), ["x"]), [(1,)])

    def test_counts_on_both_sides(self):
        self.assertEqual(equations(pairs(("3x + y", "3x + 2y")), ("x", "y")), [(0, -1)])

    def test_lists_and_tuples(self):
        bonded = pairs(("x + 2y", "3z"), ("A", "x"))
        self.assertEqual(equations(tuple(bonded), ("x", "y", "z")), equations(bonded, ["x", "y", "z"]))
        self.assertEqual([type(row) for row in equations(bonded, ["x"])], [tuple, tuple])


class Rights(unittest.TestCase):
    def test_of_each_class(self):
        bonded = pairs(("2A + x + F(x)", "A + 3F(y)"), ("F(x)", "0"), ("F(A)", "2F(A)"))
        self.assertEqual(right_of(bonded, classes("A")[0]), (-1, 0, 0))
        self.assertEqual(right_of(bonded, classes("F(x)")[0]), (-1, -1, 0))
        self.assertEqual(right_of(bonded, classes("F(x) + F(y)")[0]), (2, -1, 0))
        self.assertEqual(right_of(bonded, classes("F(x) + F(y) + F(A)")[0]), (2, -1, 1))
        self.assertEqual(right_of(bonded, classes("B")[0]), (0, 0, 0))

    def test_no_bonds(self):
        self.assertEqual(right_of([], classes("A")[0]), ())

    def test_lists_and_tuples(self):
        bonded = pairs(("2A", "B"), ("A", "3A"))
        self.assertEqual(right_of(tuple(bonded), classes("A")[0]), (-2, 2))
        self.assertIs(type(right_of(bonded, classes("A")[0])), tuple)

    def test_made_forms(self):
        for seed in range(60):
            one, other, told = made_partings(seed)
            for parting in told:
                bonded = bonds(parting, one, other)
                for group in parting:
                    wanted = []
                    for first, second in bonded:
                        counts = Counter(dict(second))
                        counts.subtract(dict(first))
                        wanted.append(sum(counts[thing] for thing in group))
                    self.assertEqual(right_of(bonded, group), tuple(wanted))


class Choices(Refusing):
    def told(self, parting, one, other, *wanted):
        self.assertEqual(choices(parting, read(one), read(other)), list(wanted))

    def test_no_class(self):
        self.told((), "x", "y", ())
        self.told((), "0", "0", ())
        self.told((), "x + y + z", "2w", ())

    def test_one_class(self):
        self.told(classes("A"), "x + y", "A", ((0, 1),), ((1, 0),))
        self.told(classes("A"), "x + y", "2A", ((0, 2),), ((1, 1),), ((2, 0),))
        self.told(classes("A"), "x + A", "y", ((0, 1),))
        self.told(classes("F(x)"), "x", "F(x)", ((1,),))
        self.told(classes("A"), "A", "A", ((),))

    def test_several_classes(self):
        self.told(classes("A", "B"), "x + A", "y + B", ((0, 1), (1, 0)))
        self.told(classes("A", "B"), "x + y", "A + B", ((0, 1), (0, 1)), ((0, 1), (1, 0)), ((1, 0), (0, 1)),
                  ((1, 0), (1, 0)))
        self.told(classes("A", "F(x) + F(A)"), "F(x)", "F(A)", ((1,), (0,)))

    def test_a_class_without_a_solution(self):
        self.told(classes("A"), "A", "0")
        self.told(classes("A"), "2x", "A")
        self.told(classes("A", "B"), "x + y + A", "B")
        self.told(classes("A", "F(x)", "F(A)"), "F(x)", "F(A)")
        self.told(classes("A", "B", "F(A) + F(B)"), "F(A)", "F(B)")

    def test_against_the_least_solutions(self):
        found = 0
        for seed in range(900):
            one, other, told = made_partings(seed)
            for parting in told:
                names = names_in(one, other)
                bonded = bonds(parting, one, other)
                rows = equations(bonded, names)
                try:
                    each = [least_to(rows, len(names), right_of(bonded, group)) for group in parting]
                    least(rows, len(names))
                except TooMany:
                    self.refused(TooMany, choices, parting, one, other)
                    continue
                wanted = sorted(product(*each))
                if len(wanted) > 1000:
                    self.refused(TooMany, choices, parting, one, other)
                else:
                    self.assertEqual(choices(parting, one, other), wanted)
                    found += len(wanted)
        self.assertGreater(found, 300)

    def test_a_thousand_and_more(self):
        parting = classes("A", "B", "C")
        told = choices(parting, read("x + y"), read("9A + 9B + 9C"))
        self.assertEqual(len(told), 1000)
        self.assertEqual(told, sorted(set(told)))
        self.refused(TooMany, choices, parting, read("x + y"), read("10A + 9B + 9C"))
        # One more than a thousand: 7 * 11 * 13.
        self.refused(TooMany, choices, parting, read("x + y"), read("6A + 10B + 12C"))
        self.refused(TooMany, choices, classes("A"), read("w + x + y + z"), read("20A"))
        self.assertEqual(len(choices(classes("A"), read("w + x + y + z"), read("15A"))), 816)

    def test_none_however_many_the_other_classes_have(self):
        parting = classes("A", "B", "C", "F(A) + F(B)")
        self.told(parting, "w + x + y + z + F(A)", "20C + F(B)")
        self.told(classes("A", "B", "C"), "w + x + y + z + A", "20B + 20C")

    def test_equations_that_are_refused(self):
        self.told(classes("A"), "3x", "3A", ((1,),))
        for one, other in (("4x", "A"), ("A", "4x"), ("5x", "x + 4A"), ("2x + A", "7x")):
            self.refused(TooMany, choices, classes("A"), read(one), read(other))
        self.told(classes("A"), "4x + A", "x + 4A", ((1,),))
        self.refused(TooMany, choices, classes("A"), read("v + w + x"), read("y + z + A"))
        self.refused(TooMany, choices, classes("F(v)"), read("w + x + y + z"), read("F(v)"))
        self.refused(TooMany, choices, classes("F(x) + F(5x)"), read("F(x)"), read("F(5x)"))

    def test_refused_without_a_class_too(self):
        self.told((), "3x", "0", ())
        self.refused(TooMany, choices, (), read("4x"), ())
        self.refused(TooMany, choices, (), (), read("4x"))
        self.told((), "w + x", "y + z", ())
        self.refused(TooMany, choices, (), read("v + w + x"), read("y + z"))

    def test_sixteen_rows_and_more(self):
        six = "H(0, 0, 0) + H(0, 0, x) + H(0, x, 0) + H(0, x, x) + H(x, 0, 0) + H(x, 0, x)"
        self.told(classes(six), six, six, ((0,),))
        seven = six + " + H(x, x, 0)"
        self.refused(TooMany, choices, classes(seven), read(seven), read(seven))
        self.refused(TooMany, choices, classes(seven), read(seven), ())

    def test_rights_that_are_refused(self):
        self.told(classes("A"), "x", "20A", ((20,),))
        self.told(classes("A"), "20A", "x", ((20,),))
        self.refused(TooMany, choices, classes("A"), read("x"), read("21A"))
        self.refused(TooMany, choices, classes("A"), read("21A"), read("x"))
        # Any class counts, also ahead of or behind one without a solution.
        self.refused(TooMany, choices, classes("A", "B"), read("x + A"), read("21B"))
        self.refused(TooMany, choices, classes("A", "B"), read("x + B"), read("21A"))
        self.refused(TooMany, choices, classes("A", "B"), read("A"), read("21B"))
        self.refused(TooMany, choices, classes("F(x) + F(A)", "A"), read("11F(x) + 11F(A)"), read("43F(x)"))


class Rounds(unittest.TestCase):
    def test_without_a_round(self):
        self.assertIsNone(round_of((), (), ()))
        self.assertIsNone(round_of((), (), ("x", "y")))
        self.assertIsNone(round_of(classes("A"), ((1, 0),), ("x", "y")))
        self.assertIsNone(round_of(classes("A", "F(A)"), ((), ()), ()))
        self.assertIsNone(round_of(classes("F(x)"), ((0, 1),), ("x", "y")))
        self.assertIsNone(round_of(classes("F(x)", "G(y, y)"), ((0, 1), (0, 0)), ("x", "y")))

    def test_a_class_within_itself(self):
        parting = classes("F(x) + F(F(x))")
        self.assertEqual(round_of(parting, ((0,),), ("x",)), (0,))
        self.assertEqual(round_of(classes("A", "F(A + F(A)) + F(A)"), ((), ()), ()), (1,))

    def test_through_a_name(self):
        told = round_of(classes("F(x)"), ((1,),), ("x",))
        self.assertIn(told, [(0, "x"), ("x", 0)])
        told = round_of(classes("A", "F(x)"), ((3, 0), (1, 0)), ("x", "y"))
        self.assertIn(told, [(1, "x"), ("x", 1)])

    def test_through_several(self):
        parting = classes("F(x)", "G(0, y)")
        choice, names = ((0, 1), (1, 0)), ("x", "y")
        told = round_of(parting, choice, names)
        self.assertEqual(len(told), 4)
        self.assertTrue(goes_round(parting, choice, names, told))
        self.assertIsNone(round_of(parting, ((0, 1), (0, 0)), names))
        parting = classes("F(G(0, x))", "G(0, x)")
        told = round_of(parting, ((1,), (0,)), ["x"])
        self.assertTrue(goes_round(parting, ((1,), (0,)), ("x",), told))
        self.assertIsNone(round_of(parting, ((0,), (0,)), ["x"]))

    def test_at_the_top_of_a_part_alone(self):
        # The x within G stands at the top of no part of F, yet one comes to it by way of G.
        parting = classes("F(G(0, x))", "G(0, x)")
        told = round_of(parting, ((1,), (0,)), ("x",))
        self.assertIn(1, told)

    def test_all_things_of_a_class_count(self):
        parting = classes("F(x) + F(y)")
        for choice, round_there in ((((0, 1),), True), (((1, 0),), True), (((0, 0),), False)):
            told = round_of(parting, choice, ("x", "y"))
            self.assertEqual(told is not None, round_there)
            if round_there:
                self.assertTrue(goes_round(parting, choice, ("x", "y"), told))

    def test_made_choices(self):
        rounds = others = 0
        for one, other, parting, choice in made_choices(range(1500)):
            names = names_of(one, other)
            told = round_of(parting, choice, names)
            self.assertEqual(round_of(parting, choice, list(names)), told)
            if has_round(parting, choice, names):
                self.assertIs(type(told), tuple)
                self.assertTrue(goes_round(parting, choice, names, told))
                rounds += 1
            else:
                self.assertIsNone(told)
                others += 1
        self.assertGreater(min(rounds, others), 100)

    def test_any_rows_for_a_choice(self):
        for seed in range(300):
            numbers = Numbers(3000 + seed)
            form = made_form(numbers, ["x", "y"], 12, "AFG")
            parting = tuple((thing,) for thing in things_in(form))
            choice = tuple((numbers.below(2), numbers.below(4) // 3) for _ in parting)
            told = round_of(parting, choice, ("x", "y"))
            self.assertEqual(told is not None, has_round(parting, choice, ("x", "y")))
            if told is not None:
                self.assertTrue(goes_round(parting, choice, ("x", "y"), told))


class Ways(unittest.TestCase):
    def check(self, one, other, parting, choice):
        """Fails where the way of the choice isn't as the document asks."""
        names = names_in(one, other)
        told = way_of(parting, choice, one, other)
        if has_round(parting, choice, names):
            self.assertIsNone(told)
            return None
        self.assertIs(type(told), tuple)
        self.assertEqual([name for name, _ in told], names)
        forms = dict(told)
        for form in forms.values():
            check_form(self, form)
            self.assertFalse(set(names_in(form)) & set(names))
        self.assertEqual(replaced(one, forms), replaced(other, forms))
        self.check_parts(told, parting, choice, least(equations(bonds(parting, one, other), names), len(names)))
        return told

    def check_parts(self, told, parting, choice, free):
        """Fails where the things aren't the classes' first ones, or the unknowns not the least solutions' own."""
        forms = dict(told)
        firsts = [replaced(((group[0], 1),), forms)[0][0] for group in parting]
        wanted = [Counter() for _ in told]
        for thing, row in zip(firsts, choice):
            for whole, number in zip(wanted, row):
                whole[thing] += number
        self.assertEqual([Counter({item: count for item, count in form if item[0] == "of"}) for _, form in told],
                         [+whole for whole in wanted])
        unknown = sorted({item for _, form in told for item, _ in form if item[0] == "any"})
        self.assertEqual(sorted(tuple(dict(form).get(item, 0) for _, form in told) for item in unknown), sorted(free))
        self.assertEqual(names_in(*forms.values()), [item[1] for item in unknown])

    def test_no_names(self):
        self.assertEqual(way_of(classes("A"), ((),), read("A"), read("A")), ())
        self.assertEqual(way_of((), (), (), ()), ())

    def test_things_alone(self):
        self.assertEqual(way_of(classes("A"), ((2,),), read("x"), read("2A")), way(x="2A"))
        self.assertEqual(way_of(classes("A", "B"), ((3,), (1,)), read("x"), read("3A + B")), way(x="3A + B"))
        self.assertEqual(way_of((), (), read("x"), ()), way(x="0"))

    def test_the_way_is_put_into_the_things(self):
        one, other = read("x + G(0, y)"), read("F(y) + G(0, A)")
        parting = classes("A", "F(y)", "G(0, y) + G(0, A)")
        told = self.check(one, other, parting, ((0, 1), (1, 0), (0, 0)))
        self.assertEqual(told, way(x="F(A)", y="A"))
        parting = classes("A", "F(x)", "F(y)", "G(0, 0)", "G(z, y) + G(F(x), F(y))")
        one, other = read("x + G(z, y) + G(0, 0)"), read("A + G(F(x), F(y)) + G(0, 0)")
        for choice in choices(parting, one, other):
            self.check(one, other, parting, choice)

    def test_unknowns_of_their_own(self):
        told = self.check(read("x + y"), read("z"), (), ())
        self.assertEqual(len(names_in(*[form for _, form in told])), 2)
        told = self.check(read("w + x"), read("y + z"), (), ())
        self.assertEqual(len(names_in(*[form for _, form in told])), 4)
        self.assertEqual([len(form) for _, form in told], [2, 2, 2, 2])
        told = self.check(read("2x"), read("3y"), (), ())
        self.assertEqual([form[0][1] for _, form in told], [3, 2])

    def test_names_that_might_be_taken_for_the_unknowns(self):
        for names in ("abcd", "zyxw", "uvwx", "nmop"):
            one, other = read(f"{names[0]} + {names[1]}"), read(f"{names[2]} + 2{names[3]}")
            self.check(one, other, (), ())
        self.check(read("aa + b"), read("c + a"), (), ())

    def test_many_unknowns(self):
        told = self.check(read("3w + 3x"), read("2y + 2z"), (), ())
        self.assertEqual(len(names_in(*[form for _, form in told])), 12)
        one, other = read("2b + 3c + F(3b)"), read("3d + 3e + F(2c)")
        told = self.check(one, other, classes("F(3b) + F(2c)"), ((0, 0, 0, 0),))
        self.assertEqual(len(names_in(*[form for _, form in told])), 14)

    def test_with_a_round(self):
        self.assertIsNone(way_of(classes("F(x)"), ((1,),), read("x"), read("F(x)")))
        self.assertIsNone(way_of(classes("F(x) + F(F(x))"), ((0,),), read("F(x)"), read("F(F(x))")))

    def test_a_spread_above_two_thousand(self):
        tall, broad = read("y"), read("z")
        for sign in "FGHK":
            tall = ((("of", sign, (tall, tall, tall)), 1),)
            broad = ((("of", sign * 2, (broad, broad, broad)), 1),)
        one, other = read("x + 2y"), plus(tall, times(2, broad))
        parting = tuple((thing,) for thing in things_of(one, other))
        self.assertEqual((len(parting), spread(other)), (8, 242))
        found = {tall[0][0]: (1, 0, 0), broad[0][0]: (0, 1, 0)}
        choice = tuple(found.get(thing, (0, 0, 0)) for thing, in parting)
        self.assertIn(choice, choices(parting, one, other))
        told = dict(self.check(one, other, parting, choice))
        self.assertEqual([spread(told[name]) for name in "yx"], [121, 40 + 81 * 121])
        # What is put into a form is refused there, the way of a choice is not.
        with self.assertRaises(TooMany):
            put(read("x"), tuple(told.items()))

    def test_made_choices(self):
        told = 0
        for one, other, parting, choice in made_choices(range(1000, 1600)):
            told += self.check(one, other, parting, choice) is not None
        self.assertGreater(told, 200)
        for one, other, parting, choice in made_choices(range(1600, 1800), "AFGH"):
            self.check(one, other, parting, choice)


class Kept(unittest.TestCase):
    def test_what_is_handed_in_stays(self):
        one, other, names = read("x + F(y)"), read("F(A) + y"), ["x", "y"]
        parting = partings(things_of(one, other))[0]
        bonded = bonds(parting, one, other)
        before = list(bonded)
        equations(bonded, names)
        right_of(bonded, parting[0])
        for choice in choices(parting, one, other):
            round_of(parting, choice, names)
            way_of(parting, choice, one, other)
        self.assertEqual((bonded, names), (before, ["x", "y"]))
        self.assertEqual((one, other), (read("x + F(y)"), read("F(A) + y")))

    def test_what_was_told_may_be_changed(self):
        one, other, parting = read("x + y + F(x)"), read("A + F(A)"), classes("A", "F(x) + F(A)")
        bonded = bonds(parting, one, other)
        for asked in (lambda: bonds(parting, one, other), lambda: choices(parting, one, other),
                      lambda: equations(bonded, ["x", "y"])):
            told = asked()
            before = list(told)
            self.assertIs(type(told), list)
            told.clear()
            told.append(None)
            self.assertEqual(asked(), before)

    def test_asked_again(self):
        one, other, parting = read("w + x"), read("y + z + A"), classes("A")
        for choice in choices(parting, one, other):
            self.assertEqual(way_of(parting, choice, one, other), way_of(parting, choice, one, other))


if __name__ == "__main__":
    unittest.main()
