import unittest

from helper import Numbers, Refusing, made_form, names_in
from mixform.errors import TooMany
from mixform.reader import read
from mixform.rules import rule, uses
from mixform.shows import shown
from mixform.work import worked


def rules(*texts):
    return [rule(read(left), read(right)) for left, right in texts]


def done(told):
    """What was told, with the results shown."""
    return [(number, shown(result)) for number, result in told]


def walked(some, form, most):
    """What is done, by the document's words; None where it is too much."""
    told = []
    while True:
        for number, one in enumerate(some):
            found = uses(one, form)
            if found:
                break
        else:
            return told
        form = found[0][3]
        told.append((number, form))
        if len(told) > most:
            return None


class Worked(Refusing):
    def told(self, some, form, *wanted):
        self.assertEqual(done(worked(rules(*some), read(form))), list(wanted))

    def test_no_rule(self):
        self.assertEqual(worked([], read("A")), [])
        self.assertEqual(worked((), ()), [])
        self.assertEqual(worked([], read("11A")), [])

    def test_no_use(self):
        self.told([("A", "B")], "C")
        self.told([("A", "B"), ("2C", "C")], "C + F(x)")
        self.told([("A", "B")], "0")

    def test_one_rule(self):
        self.told([("A", "B")], "2A", (0, "A + B"), (0, "2B"))
        self.told([("2A", "A")], "3A", (0, "2A"), (0, "A"))
        self.told([("F(x)", "x")], "F(F(A)) + B", (0, "B + F(A)"), (0, "A + B"))

    def test_several_rules_in_their_order(self):
        self.told([("A", "B"), ("B", "C")], "A", (0, "B"), (1, "C"))
        self.told([("B", "C"), ("A", "B")], "A", (1, "B"), (0, "C"))
        self.told([("A", "B"), ("B", "C")], "2A", (0, "A + B"), (0, "2B"), (1, "B + C"), (1, "2C"))
        self.told([("B", "C"), ("A", "B")], "2A", (1, "A + B"), (0, "A + C"), (1, "B + C"), (0, "2C"))
        self.told([("A + B", "0"), ("A", "C"), ("B", "D")], "2A + B", (0, "A"), (1, "C"))

    def test_the_first_use(self):
        # The top stands ahead of the places within, and those of one thing by their numbers.
        self.told([("A", "B")], "A + G(A, A)", (0, "B + G(A, A)"), (0, "B + G(B, A)"), (0, "B + G(B, B)"))
        self.told([("2x + A", "B")], "A + 2C", (0, "B + 2C"))
        self.told([("A", "0")], "F(A) + F(2A)", (0, "F(0) + F(2A)"), (0, "F(0) + F(A)"), (0, "2F(0)"))

    def test_against_the_uses(self):
        found = refused = 0
        for seed in range(800):
            numbers = Numbers(seed)
            some = []
            for _ in range(1 + numbers.below(3)):
                left = made_form(numbers, ["x"], 3, "AFG")
                if left and names_in(left) != ["x"] or len(left) > 1:
                    some.append(rule(left, made_form(numbers, names_in(left), 2, "AB")))
            form, most = made_form(numbers, ["y"], 8, "AFG"), numbers.below(6)
            try:
                wanted = walked(some, form, most)
            except TooMany:
                wanted = None
            if wanted is None:
                self.refused(TooMany, worked, some, form, most)
                refused += 1
            else:
                told = worked(some, form, most)
                self.assertIs(type(told), list)
                self.assertEqual(told, wanted)
                self.assertEqual([type(each) for each in told], [tuple] * len(told))
                found += len(told)
        self.assertGreater(min(found, refused), 40)


class Bounds(Refusing):
    def test_as_many_as_most_and_one_more(self):
        some = rules(("A", "B"))
        for count in range(1, 10):
            self.assertEqual(len(worked(some, read(f"{count}A"), count)), count)
            self.refused(TooMany, worked, some, read(f"{count}A"), count - 1)
            self.assertEqual(len(worked(some, read(f"{count}A"), 100)), count)

    def test_most_of_none(self):
        self.assertEqual(worked(rules(("A", "B")), read("B"), 0), [])
        self.assertEqual(worked([], read("A"), 0), [])
        self.refused(TooMany, worked, rules(("A", "B")), read("A"), 0)

    def test_most_left_out(self):
        steps = "ABCDEFGHIJKLMNOPQRSTUVW"
        chain = rules(*zip(steps, steps[1:]))
        self.assertEqual(len(worked(chain[:20], read("A"))), 20)
        self.refused(TooMany, worked, chain[:21], read("A"))
        self.assertEqual(len(worked(chain[:21], read("A"), 21)), 21)

    def test_most_of_a_hundred(self):
        # Four heaps of which each step takes one from A and gives one to B, and so on: 10 * 3 steps and more.
        some = rules(("A", "B"), ("B", "C"), ("C", "D"), ("D", "E"), ("E", "F"), ("F", "G"), ("G", "H"), ("H", "I"),
                     ("I", "J"), ("J", "K"))
        told = worked(some, read("10A"), 100)
        self.assertEqual(len(told), 100)
        self.assertEqual(told[-1], (9, read("10K")))
        self.refused(TooMany, worked, some, read("10A"), 99)

    def test_without_an_end(self):
        self.refused(TooMany, worked, rules(("A", "A")), read("A"))
        self.refused(TooMany, worked, rules(("A", "B"), ("B", "A")), read("A"), 100)
        self.refused(TooMany, worked, rules(("x", "x")), ())

    def test_refused_on_the_way(self):
        # The form grows until it is too great.
        self.assertEqual(len(worked(rules(("A", "3B")), read("3A"), 3)), 3)
        self.refused(TooMany, worked, rules(("A", "4B")), read("3A"), 100)
        self.refused(TooMany, worked, rules(("A", "B")), read("11A"))
        self.refused(TooMany, worked, rules(("A", "B")), read("11C"))
        self.refused(TooMany, worked, rules(("F(x, y, z)", "x")), read("A"))

    def test_rules_behind_are_not_asked(self):
        # The second rule has 512 uses on the form, and none on what the first one makes of it.
        great = "F(A + B + C + D + E + G + H + I + J)"
        some = rules((great, "K"), ("F(x + y)", "x"))
        self.refused(TooMany, uses, some[1], read(great))
        self.assertEqual(done(worked(some, read(great))), [(0, "K")])
        self.refused(TooMany, worked, some[::-1], read(great))
        # At the end, where the first one has no use, the second one is asked.
        self.refused(TooMany, worked, rules(("A", "B"), ("F(x, y, z)", "x")), read("A"))

    def test_rules_ahead_are_asked(self):
        self.refused(TooMany, worked, rules(("F(x, y, z)", "x"), ("A", "B")), read("A"))
        self.refused(TooMany, worked, rules(("x + y", "0"), ("A", "B")), read("5A + 4B"))


class Kept(unittest.TestCase):
    def test_lists_and_tuples(self):
        some = rules(("A", "B"), ("B", "C"))
        self.assertEqual(worked(tuple(some), read("2A")), worked(some, read("2A")))

    def test_what_is_handed_in_stays(self):
        some, form = rules(("A", "B"), ("B", "C")), read("2A")
        worked(some, form)
        self.assertEqual((some, form), (rules(("A", "B"), ("B", "C")), read("2A")))

    def test_what_was_told_may_be_changed(self):
        some, form = rules(("A", "B"), ("B", "C")), read("2A")
        told = worked(some, form)
        before = list(told)
        told.clear()
        told.append(None)
        self.assertEqual(worked(some, form), before)

    def test_what_is_told_may_be_handed_on(self):
        some = rules(("A", "F(A)"))
        told = worked(rules(("2A", "B")), read("5A + F(3A)"))
        self.assertEqual(worked(rules(("2A", "B")), told[-1][1]), [])
        self.assertEqual(len(uses(some[0], told[-1][1])), 2)


if __name__ == "__main__":
    unittest.main()
