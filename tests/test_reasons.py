import unittest

from helper import Numbers, Refusing, classes, goes_round, has_round, made_pair, names_in
from mixform.alike import alike
from mixform.choices import bonds, choices, equations, right_of, way_of
from mixform.errors import TooMany
from mixform.leasts import least_to
from mixform.partings import partings, things_of
from mixform.reader import read
from mixform.reasons import Counts, Reason, Within, why


def without_solution(parting, one, other):
    """The numbers of the classes that have no solution."""
    names, bonded = names_in(one, other), bonds(parting, one, other)
    rows = equations(bonded, names)
    return [at for at, group in enumerate(parting) if not least_to(rows, len(names), right_of(bonded, group))]


class Papers(Refusing):
    def check(self, one, other):
        """Fails where the paper isn't as the document asks; tells it."""
        told = why(one, other)
        found = partings(things_of(one, other))
        names = names_in(one, other)
        ways = [way_of(parting, choice, one, other) for parting in found for choice in choices(parting, one, other)]
        if any(way is not None for way in ways):
            self.assertIsNone(told)
            return None
        self.assertIs(type(told), list)
        self.assertEqual([reason.parting for reason in told], found)
        for reason in told:
            lacking = without_solution(reason.parting, one, other)
            self.assertIsInstance(reason, Reason)
            if lacking:
                self.assertIs(type(reason), Counts)
                self.assertEqual(reason.at, lacking[0])
            else:
                self.assertIs(type(reason), Within)
                self.assertIs(type(reason.rounds), list)
                made = choices(reason.parting, one, other)
                self.assertEqual(len(reason.rounds), len(made))
                for nodes, choice in zip(reason.rounds, made):
                    self.assertIs(type(nodes), tuple)
                    self.assertTrue(goes_round(reason.parting, choice, names, nodes))
            self.assertIs(reason.holds(one, other), True)
        return told

    def told(self, one, other, *kinds):
        told = self.check(read(one), read(other))
        self.assertEqual([type(reason) for reason in told], list(kinds))
        return told

    def test_none_where_there_is_a_way(self):
        for one, other in (("0", "0"), ("x", "y"), ("x", "A"), ("x + y", "F(x)"), ("F(x) + F(y)", "F(A) + F(B)"),
                           ("A", "A"), ("F(x)", "F(F(y))"), ("x + F(y)", "y + F(x)")):
            self.assertIsNone(self.check(read(one), read(other)))

    def test_counts(self):
        told = self.told("A", "B", Counts)
        self.assertEqual((told[0].parting, told[0].at), (classes("A", "B"), 0))
        self.told("A", "0", Counts)
        self.told("2x", "A", Counts)
        self.told("F(A)", "F(B)", Counts, Counts)

    def test_the_first_class_without_a_solution(self):
        told = self.told("x + C", "A + B", Counts)
        self.assertEqual(told[0].at, 2)
        told = self.told("x + B + C", "A", Counts)
        self.assertEqual(told[0].at, 1)
        told = self.told("x + A + B", "C", Counts)
        self.assertEqual(told[0].at, 0)

    def test_within(self):
        told = self.told("x", "F(x)", Within)
        self.assertIn(told[0].rounds, [[(0, "x")], [("x", 0)]])
        told = self.told("x + y", "F(x) + F(y)", Within, Within)
        self.assertEqual([len(reason.rounds) for reason in told], [4, 1])
        told = self.told("x", "F(F(x))", Within, Within)
        self.assertEqual(told[1].rounds, [(0,)])

    def test_both(self):
        told = self.told("F(x)", "F(F(x))", Counts, Within)
        self.assertEqual((told[0].at, told[1].rounds), (0, [(0,)]))
        self.told("F(x) + A", "F(F(x)) + A", Counts, Within)

    def test_made_pairs(self):
        kinds, ways = {Counts: 0, Within: 0}, 0
        for seed in range(900):
            numbers = Numbers(seed)
            one, other = made_pair(numbers, ["x", "y", "z"][:1 + numbers.below(3)], 5)
            try:
                told = alike(one, other)
            except TooMany:
                self.refused(TooMany, why, one, other)
                continue
            paper = self.check(one, other)
            self.assertEqual(paper is None, len(told) > 0)
            ways += paper is None
            for reason in paper or []:
                kinds[type(reason)] += 1
        self.assertGreater(min(ways, kinds[Counts], kinds[Within]), 40)

    def test_refused_where_ways_are(self):
        for one, other in (("v + w + x", "y + z"), ("v + w + x + y + z + A", "B"), ("x", "A + B + C + D + E + F + G"),
                           ("4x", "A"), ("F(4A)", "F(x)"), ("A", "4A"), ("F(w) + F(x) + F(0)", "F(y) + F(z)"),
                           ("x + y", "3A + 3B + C"), ("x + y", "3F(x) + 3F(y) + A"),
                           ("x", "3A + 2F(3A) + 2G(3F(3A), 3F(3A))"), ("3w + 3x", "2y + 2z + A"),
                           ("2w + 3x + F(3w)", "3y + 3z + F(2x)")):
            self.refused(TooMany, alike, read(one), read(other))
            self.refused(TooMany, why, read(one), read(other))
            self.refused(TooMany, why, read(other), read(one))


class Fields(unittest.TestCase):
    def test_what_they_were_made_of(self):
        parting = classes("A", "B")
        self.assertEqual(Reason(parting).parting, parting)
        self.assertEqual((Counts(parting, 1).parting, Counts(parting, 1).at), (parting, 1))
        self.assertEqual((Within(parting, [(0,)]).parting, Within(parting, [(0,)]).rounds), (parting, [(0,)]))

    def test_they_stand_under_reason(self):
        self.assertTrue(issubclass(Counts, Reason))
        self.assertTrue(issubclass(Within, Reason))
        self.assertFalse(issubclass(Within, Counts) or issubclass(Counts, Within))

    def test_rounds_are_a_list_of_its_own(self):
        rounds = [(0, "x")]
        reason = Within(classes("F(x)"), rounds)
        self.assertIsNot(reason.rounds, rounds)
        rounds.append((1,))
        rounds[0] = ()
        self.assertEqual(reason.rounds, [(0, "x")])
        self.assertIs(reason.holds(read("x"), read("F(x)")), True)
        self.assertEqual(Within(classes("F(x)"), ((0, "x"),)).rounds, [(0, "x")])

    def test_those_told_are_their_own(self):
        told = why(read("x"), read("F(x)"))
        told[0].rounds.clear()
        told.clear()
        again = why(read("x"), read("F(x)"))
        self.assertEqual(len(again), 1)
        self.assertIs(again[0].holds(read("x"), read("F(x)")), True)


class Holding(unittest.TestCase):
    def holds(self, reason, one, other):
        self.assertIs(reason.holds(read(one), read(other)), True)

    def fails(self, reason, one, other):
        self.assertIs(reason.holds(read(one), read(other)), False)

    def test_reason_itself(self):
        self.fails(Reason(classes("A", "B")), "A", "B")
        self.fails(Reason(classes("F(x)")), "x", "F(x)")
        self.fails(Reason(()), "0", "0")
        self.fails(Reason(()), "A", "0")

    def test_counts_of_any_class_without_a_solution(self):
        parting = classes("A", "B")
        self.holds(Counts(parting, 0), "A", "B")
        self.holds(Counts(parting, 1), "A", "B")
        self.fails(Counts(parting, 1), "A + x", "B")
        self.holds(Counts(parting, 0), "A + x", "B")

    def test_counts_where_a_class_has_a_solution(self):
        self.fails(Counts(classes("A"), 0), "x", "A")
        self.fails(Counts(classes("A"), 0), "A", "A")
        self.fails(Counts(classes("F(x)"), 0), "x", "F(x)")

    def test_a_class_that_is_not_there(self):
        parting = classes("A", "B")
        for at in (-3, -2, -1, 2, 3, 100):
            self.fails(Counts(parting, at), "A", "B")
        self.fails(Counts((), 0), "0", "0")
        self.fails(Counts((), 0), "x", "y")
        self.fails(Counts((), -1), "x", "y")

    def test_of_other_forms(self):
        self.fails(Counts(classes("A", "B"), 0), "A", "C")
        self.fails(Counts(classes("A", "B"), 0), "A", "2A")
        self.holds(Counts(classes("A", "B"), 0), "B", "A")
        self.holds(Counts(classes("A", "B"), 0), "2A", "3B")
        self.fails(Within(classes("F(x)"), [(0, "x")]), "y", "F(x)")
        self.fails(Within(classes("F(x)"), [(0, "x")]), "x", "F(F(x))")
        self.fails(Within(classes("F(x)"), [(0, "x")]), "x + y", "F(x)")
        self.holds(Within(classes("F(x)"), [(0, "x")]), "2x", "2F(x)")

    def test_where_there_is_a_way(self):
        self.fails(Within(classes("A"), [(0, "x")]), "x", "A")
        self.fails(Within(classes("A"), []), "x", "A")
        self.fails(Within((), [()]), "x", "y")
        self.fails(Within((), []), "x", "y")
        self.fails(Within((), [("x",)]), "x", "y")

    def test_rounds_in_any_beginning(self):
        parting = classes("F(x)", "F(y)")
        one, other = "x + y", "F(x) + F(y)"
        rounds = [(1, "y"), (0, "x", 1, "y"), (0, "x"), (0, "x")]
        found = choices(parting, read(one), read(other))
        self.assertTrue(all(goes_round(parting, choice, ("x", "y"), nodes) for choice, nodes in zip(found, rounds)))
        self.holds(Within(parting, rounds), one, other)
        self.holds(Within(parting, [("y", 1), ("x", 1, "y", 0), ("x", 0), (0, "x")]), one, other)
        self.holds(Within(parting, [("y", 1), (1, "y", 0, "x"), ("x", 0), (0, "x")]), one, other)

    def test_rounds_left_out_or_too_many(self):
        parting = classes("F(x)", "F(y)")
        one, other = "x + y", "F(x) + F(y)"
        rounds = [(1, "y"), (0, "x", 1, "y"), (0, "x"), (0, "x")]
        for at in range(4):
            self.fails(Within(parting, rounds[:at] + rounds[at + 1:]), one, other)
            self.fails(Within(parting, rounds[:at] + rounds[at:at + 1] + rounds[at:]), one, other)
        self.fails(Within(parting, []), one, other)
        self.fails(Within(parting, rounds + [(0, "x")]), one, other)
        self.fails(Within(parting, rounds + [()]), one, other)
        self.fails(Within(parting, rounds[::-1]), one, other)

    def test_rounds_that_go_no_such_steps(self):
        for nodes in ((), (0,), ("x",), ("x", "x"), (0, 0), (0, "x", 0), (0, "x", 0, "x"), (0, "y"), ("y", 0), (1, "x"),
                      (0, 1), (-1, "x"), (0, "x", "y"), ("x", 0, "x"), (7,), ("q", 0), (0, "x", -1)):
            self.fails(Within(classes("F(x)"), [nodes]), "x", "F(x)")
        self.holds(Within(classes("F(x)"), [("x", 0)]), "x", "F(x)")
        parting = classes("F(x) + F(F(x))")
        for nodes in ((0,), (0, "x"), ("x", 0)):
            self.holds(Within(parting, [nodes]), "F(x)", "F(F(x))")
        for nodes in ((0, 0), ("x",), (0, "x", 0), (0, 0, "x"), (), (1,), (-1,)):
            self.fails(Within(parting, [nodes]), "F(x)", "F(F(x))")

    def test_a_round_of_another_choice(self):
        # In the first choice both things stand in y, in the last both in x.
        parting = classes("F(x)", "F(y)")
        found = choices(parting, read("x + y"), read("F(x) + F(y)"))
        self.assertEqual((found[0], found[3]), (((0, 1), (0, 1)), ((1, 0), (1, 0))))
        self.assertTrue(has_round(parting, found[0], ("x", "y")))
        self.fails(Within(parting, [(0, "x"), (0, "x", 1, "y"), (0, "x"), (0, "x")]), "x + y", "F(x) + F(y)")
        self.fails(Within(parting, [(1, "y"), (0, "x", 1, "y"), (0, "x"), (1, "y")]), "x + y", "F(x) + F(y)")

    def test_where_a_class_has_no_solution(self):
        self.fails(Within(classes("A", "B"), []), "A", "B")
        self.fails(Within(classes("F(x)", "F(F(x))"), []), "F(x)", "F(F(x))")
        self.fails(Within(classes("F(x)", "F(F(x))"), [(0,)]), "F(x)", "F(F(x))")

    def test_what_is_no_parting_of_theirs(self):
        a, b = classes("A")[0], classes("B")[0]
        for parting in ((), (a,), (b,), (b, a), (a, b, b), (a, a, b), (a, b, ()), ((), a, b), (a + b,), (b + a,),
                        (a, classes("C")[0]), (a, b, classes("C")[0]), (a, b + b), (a + a, b), ((a, b),)):
            self.fails(Counts(parting, 0), "A", "B")
            self.fails(Counts(parting, 1), "A", "B")
            self.fails(Within(parting, []), "A", "B")
        self.holds(Counts((a, b), 0), "A", "B")

    def test_a_class_with_its_things_in_another_order(self):
        one, other = "F(x)", "F(F(x))"
        parting = classes("F(x) + F(F(x))")
        self.holds(Within(parting, [(0,)]), one, other)
        self.fails(Within((parting[0][::-1],), [(0,)]), one, other)
        self.fails(Within((parting[0] + parting[0][:1],), [(0,)]), one, other)
        self.fails(Within((parting[0], parting[0]), [(0,)]), one, other)
        apart = classes("F(x)", "F(F(x))")
        self.holds(Counts(apart, 0), one, other)
        self.fails(Counts(apart[::-1], 0), one, other)
        self.fails(Counts(apart[:1], 0), one, other)

    def test_what_is_handed_in_stays(self):
        one, other = read("x"), read("F(x)")
        reason = why(one, other)[0]
        for _ in range(2):
            self.assertIs(reason.holds(one, other), True)
        self.assertEqual((one, other), (read("x"), read("F(x)")))
        self.assertIn(reason.rounds, [[(0, "x")], [("x", 0)]])
        self.assertEqual(reason.parting, classes("F(x)"))


if __name__ == "__main__":
    unittest.main()
