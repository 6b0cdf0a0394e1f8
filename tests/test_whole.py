"""What is promised over the whole program: order and grouping make no difference, and what is told fits together."""

import unittest

from helper import Numbers, Refusing, made_form, made_pair, made_term, names_in, regrouped, replaced, way
from mixform.alike import alike
from mixform.choices import bonds, choices, equations, right_of, round_of, way_of
from mixform.compare import few, further
from mixform.errors import NoRow, NoRule, NoText, TooMany
from mixform.forms import form_of, plus, same, times
from mixform.leasts import least, least_to, shares
from mixform.matches import matches
from mixform.measures import depth, size, spread, unknowns
from mixform.partings import names_of, partings, things_of
from mixform.reader import read
from mixform.reasons import Counts, Within, why
from mixform.rules import form_at, rule, uses
from mixform.shows import shown
from mixform.ways import chained, cut, has, put
from mixform.work import worked


def shuffled_text(numbers, form):
    """A text of a form with its items in another order, at any depth, some of them in brackets."""
    parts = []
    for item, count in numbers.shuffled(form):
        if item[0] == "any":
            text = item[1]
        else:
            inner = ", ".join(shuffled_text(numbers, part) for part in item[2])
            text = item[1] + (f"({inner})" if item[2] else "")
        parts.extend([[f"{count}{text}"], [f"{count}({text})"], [text] * count][numbers.below(3)])
    return " + ".join(numbers.shuffled(parts)) or "0"


class Orders(unittest.TestCase):
    """Terms in other orders and groupings, through all that is told of them."""

    def test_terms_forms_and_texts(self):
        for seed in range(150):
            numbers = Numbers(seed)
            term = made_term(numbers, 3)
            again = regrouped(numbers, term)
            form = form_of(term)
            self.assertTrue(same(term, again))
            self.assertEqual(form_of(again), form)
            self.assertEqual(shown(form_of(again)), shown(form))
            text = shuffled_text(numbers, form)
            if len(text) <= 600:
                self.assertEqual(read(text), form)
            if len(shown(form)) <= 600:
                self.assertEqual(read(shown(form)), form)

    def test_other_terms_are_not_the_same(self):
        terms = [made_term(Numbers(seed), 3) for seed in range(60)]
        for one in terms:
            for other in terms:
                self.assertEqual(same(one, other), shown(form_of(one)) == shown(form_of(other)))

    def test_alike(self):
        told = 0
        for seed in range(200):
            numbers = Numbers(seed)
            one, other = made_term(numbers, 2), made_term(numbers, 2)
            again = regrouped(numbers, one), regrouped(numbers, other)
            try:
                ways = alike(form_of(one), form_of(other))
            except TooMany:
                with self.assertRaises(TooMany):
                    alike(form_of(again[0]), form_of(again[1]))
                continue
            self.assertEqual(alike(form_of(again[0]), form_of(again[1])), ways)
            told += len(ways)
            reasons = why(form_of(again[0]), form_of(again[1]))
            self.assertEqual(reasons is None, len(ways) > 0)
            for reason in reasons or []:
                self.assertTrue(reason.holds(form_of(one), form_of(other)))
        self.assertGreater(told, 50)

    def test_matches_and_uses(self):
        for seed in range(150):
            numbers = Numbers(seed)
            pattern, form = made_form(numbers, ["x", "y"], 4), made_form(numbers, ["z"], 6)
            again = read(shuffled_text(numbers, pattern)), read(shuffled_text(numbers, form))
            self.assertEqual(matches(*again, 300), matches(pattern, form, 300))
            if pattern:
                self.assertEqual(uses(rule(again[0], ()), again[1]), uses(rule(pattern, ()), form))


class PatternsMadeAlike(unittest.TestCase):
    """What alike tells of a pattern and a form, and what matches tells of them."""

    def pairs(self, names, seeds):
        for seed in seeds:
            numbers = Numbers(seed)
            pattern = made_form(numbers, ["x", "y", "z"][:1 + numbers.below(3)], 5)
            form = made_form(numbers, names, 5)
            if numbers.below(2):
                form = replaced(pattern, {name: made_form(numbers, names, 2, "A") for name in names_in(pattern)})
            try:
                yield pattern, form, alike(pattern, form)
            except TooMany:
                continue

    def test_forms_without_unknowns(self):
        # Such a form stays as it is: so each way that makes both alike is a match.
        found = 0
        for pattern, form, told in self.pairs([], range(600)):
            if size(form) <= 10:
                self.assertEqual(sorted(told), matches(pattern, form, 300))
                found += len(told)
        self.assertGreater(found, 200)

    def test_forms_with_unknowns_of_their_own(self):
        found = 0
        for pattern, form, told in self.pairs(["u", "v"], range(600)):
            if size(form) <= 10:
                names = names_of(pattern, form)
                for match in matches(pattern, form, 300):
                    made = tuple((name, has(match, name)) for name in names)
                    self.assertTrue(any(further(one, made, names) is not None for one in told))
                    found += 1
        self.assertGreater(found, 200)


class UsesAndMatches(unittest.TestCase):
    """A rule can be used just where a way is, what it isn't about staying as it is."""

    def test_made_rules(self):
        for seed in range(200):
            numbers = Numbers(seed)
            left, form = made_form(numbers, ["x"], 3), made_form(numbers, ["y"], 7)
            if not left:
                continue
            right = made_form(numbers, names_in(left), 3)
            for place, found, rest, result in uses(rule(left, right), form):
                own = form_at(form, place)
                self.assertEqual(plus(put(left, found), rest), own)
                self.assertIn(found, [cut_match for cut_match in self.matched(left, own, rest)])
                if not place:
                    self.assertEqual(result, plus(put(right, found), rest))

    def matched(self, left, own, rest):
        """The matches of the left and the rest beside it with a form."""
        for match in matches(plus(left, read("rest")), own, 300):
            if has(match, "rest") == rest:
                yield tuple(pair for pair in match if pair[0] != "rest")


class Solutions(unittest.TestCase):
    def test_each_choice_is_of_least_solutions_for_its_right(self):
        for seed in range(100):
            one, other = made_pair(Numbers(seed), ["x", "y"], 5)
            try:
                found = partings(things_of(one, other))
            except TooMany:
                continue
            for parting in found:
                bonded = bonds(parting, one, other)
                names = names_of(one, other)
                rows = equations(bonded, names)
                for choice in choices(parting, one, other):
                    for group, row in zip(parting, choice):
                        self.assertIn(row, least_to(rows, len(names), right_of(bonded, group)))
                for row in least(rows, len(names)):
                    self.assertEqual(shares(rows, row), [(row, 1)])


class HandedOn(unittest.TestCase):
    """What one function tells is handed on to another one."""

    def test_ways_that_are_told(self):
        one, other = read("x + F(y)"), read("F(A) + y + z")
        told = alike(one, other)
        self.assertGreater(len(told), 1)
        names = names_of(one, other)
        self.assertEqual(few(told, names), told)
        for found in told:
            self.assertEqual(put(one, found), put(other, found))
            self.assertEqual(put(one, chained(found, way(a="B"))), put(put(one, found), way(a="B")))
            self.assertEqual(cut(found, names), found)
            self.assertEqual(further(found, found, names) is not None, True)
            self.assertEqual(read(shown(put(one, found))), put(one, found))

    def test_forty_deep_and_a_hundred_figures(self):
        text = "F(" * 20 + "x" + ")" * 20
        deep = put(read(text), (("x", read(text)),))
        great = times(10 ** 18, times(10 ** 18, read("x + A")))
        self.assertEqual(depth(deep), 40)
        self.assertEqual(unknowns(deep), ("x",))
        self.assertEqual(names_of(deep, great), ("x",))
        self.assertEqual(len(things_of(deep, great)), 41)
        self.assertEqual(further((("x", deep),), (("x", deep),), ["x"]), (("x", read("x")),))
        self.assertEqual(further((("x", great),), (("x", great),), ["x"]), (("x", read("x")),))
        self.assertEqual(few([(("x", deep),), (("x", read(text)),)], ["x"]), [(("x", read(text)),)])
        self.assertEqual(matches(great, ()), [])
        self.assertEqual(matches(deep, read("F(A)")), [])
        self.assertEqual(rule(deep, great), (deep, great))
        self.assertEqual(equations([(great, deep)], ["x"]), [(10 ** 36,)])
        self.assertEqual(right_of([(great, deep)], (("of", "A", ()),)), (-10 ** 36,))
        self.assertEqual(bonds((), deep, great), [(deep, great)])
        self.assertEqual(size(great), 2 * 10 ** 36)
        self.assertEqual(spread(deep), 41)

    def test_results_that_are_worked_on(self):
        told = uses(rule(read("A + x"), read("F(x)")), read("2A + B"))
        for _, found, rest, result in told:
            self.assertEqual(plus(put(read("A + x"), found), rest), read("2A + B"))
            self.assertIsInstance(worked([rule(read("F(x)"), read("x"))], result), list)
            self.assertEqual(alike(result, result), [()])

    def test_reasons_of_partings_that_are_told(self):
        one, other = read("x + A"), read("F(x) + B")
        for reason in why(one, other):
            self.assertIn(reason.parting, partings(things_of(one, other)))
            if isinstance(reason, Counts):
                self.assertTrue(Counts(reason.parting, reason.at).holds(one, other))
            else:
                self.assertTrue(Within(reason.parting, reason.rounds).holds(one, other))
        for choice in choices(why(read("x"), read("F(x)"))[0].parting, read("x"), read("F(x)")):
            parting = partings(things_of(read("x"), read("F(x)")))[0]
            self.assertIsNone(way_of(parting, choice, read("x"), read("F(x)")))
            self.assertEqual(why(read("x"), read("F(x)"))[0].rounds, [round_of(parting, choice, ("x",))])


class Refused(Refusing):
    def test_each_by_its_own_name(self):
        self.refused(NoText, read, "F()")
        self.refused(NoRow, shares, [(1, -1)], (1, 2))
        self.refused(NoRule, rule, (), ())
        self.refused(TooMany, least, [(4,)], 1)
        self.refused(TooMany, matches, read("x"), read("11A"))
        self.refused(TooMany, partings, tuple((("of", sign, ())) for sign in "ABCDEFGHI"))
        self.refused(TooMany, choices, (), read("4x"), ())
        self.refused(TooMany, alike, read("4x"), ())
        self.refused(TooMany, why, read("4x"), ())
        self.refused(TooMany, uses, rule(read("A"), ()), read("11A"))
        self.refused(TooMany, worked, [rule(read("A"), read("A"))], read("A"))


if __name__ == "__main__":
    unittest.main()
