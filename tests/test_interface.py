"""The names, arguments and defaults that the document tells."""

import importlib
import inspect
import unittest

WANTED = {
    "forms": ["form_of(term)", "same(one, other)", "plus(one, other)", "times(number, form)", "less(one, other)"],
    "measures": ["size(form)", "spread(form)", "depth(form)", "unknowns(form)", "things(form)"],
    "shows": ["shown(form)"],
    "reader": ["read(text)"],
    "rows": ["solves(rows, row, right=None)"],
    "leasts": ["least(rows, many)", "least_to(rows, many, right)", "shares(rows, row)"],
    "ways": ["has(way, name)", "put(form, way)", "chained(one, other)", "cut(way, names)"],
    "matches": ["matches(pattern, form, most=100)"],
    "compare": ["further(one, other, names)", "few(ways, names)"],
    "partings": ["names_of(one, other)", "things_of(one, other)", "partings(things)"],
    "choices": ["bonds(parting, one, other)", "equations(bonded, names)", "right_of(bonded, group)",
                "choices(parting, one, other)", "round_of(parting, choice, names)",
                "way_of(parting, choice, one, other)"],
    "alike": ["alike(one, other)"],
    "reasons": ["Reason(parting)", "Counts(parting, at)", "Within(parting, rounds)", "why(one, other)"],
    "rules": ["rule(left, right)", "form_at(form, place)", "uses(one, form)"],
    "work": ["worked(rules, form, most=20)"],
}


class Interface(unittest.TestCase):
    def test_names_arguments_and_defaults(self):
        for module, wanted in WANTED.items():
            found = importlib.import_module("mixform." + module)
            for text in wanted:
                name = text.partition("(")[0]
                self.assertEqual(name + str(inspect.signature(getattr(found, name))), text)

    def test_reasons_are_asked_of_two_forms(self):
        found = importlib.import_module("mixform.reasons")
        for reason in (found.Reason, found.Counts, found.Within):
            self.assertEqual(str(inspect.signature(reason.holds)), "(self, one, other)")

    def test_arguments_by_their_names(self):
        matches = importlib.import_module("mixform.matches").matches
        worked = importlib.import_module("mixform.work").worked
        self.assertEqual(matches(pattern=(), form=(), most=1), [()])
        self.assertEqual(worked(rules=[], form=(), most=0), [])


if __name__ == "__main__":
    unittest.main()
