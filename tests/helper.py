"""What the tests share: terms written shortly, things made by rule, and second, slower ways to what is told."""

import unittest
from collections import Counter
from itertools import product

from mixform.errors import MixError
from mixform.reader import read


def unknown(name):
    return ("any", name)


def thing(sign, *parts):
    return ("of", sign, tuple(parts))


def mix(*parts):
    return ("mix", tuple(parts))


NOTHING = mix()


def way(**texts):
    return tuple(sorted((name, read(text)) for name, text in texts.items()))


def classes(*texts):
    """A parting, each class written as a sum."""
    return tuple(sorted(tuple(item for item, _ in read(text)) for text in texts))


class Refusing(unittest.TestCase):
    def refused(self, error, asked, *things):
        """Fails where what is asked isn't refused by that error's own name, by MixError and by ValueError."""
        for name in (error, MixError, ValueError):
            with self.assertRaises(name, msg=repr(things)) as caught:
                asked(*things)
            self.assertIs(type(caught.exception), error)


class Numbers:
    """Numbers that look thrown but are the same in each run."""

    def __init__(self, seed):
        self.state = seed

    def below(self, bound):
        self.state = (self.state * 6364136223846793005 + 1442695040888963407) % 2 ** 64
        return (self.state >> 33) % bound

    def shuffled(self, things):
        left, order = list(things), []
        while left:
            order.append(left.pop(self.below(len(left))))
        return order


def made_term(numbers, depth):
    """A term no deeper than told, of few names and signs, so that equal items come together."""
    choice = numbers.below(5)
    if depth == 0 or choice == 0:
        return unknown("xyz"[numbers.below(3)])
    if choice <= 2:
        return thing("FG"[numbers.below(2)], *[made_term(numbers, depth - 1) for _ in range(numbers.below(4))])
    return mix(*[made_term(numbers, depth - 1) for _ in range(numbers.below(5))])


def regrouped(numbers, term):
    """The term with its mixes ordered and grouped anew, nothing put in, and mixes of one part made."""
    if term[0] == "any":
        new = term
    elif term[0] == "of":
        new = thing(term[1], *[regrouped(numbers, part) for part in term[2]])
    else:
        parts = numbers.shuffled([regrouped(numbers, part) for part in term[1]])
        cut = numbers.below(len(parts) + 1)
        groups = [mix(*parts[:cut])] + parts[cut:]
        new = mix(*numbers.shuffled(groups))
    return (new, mix(new), mix(NOTHING, new), mix(new, NOTHING))[numbers.below(4)]


def written(numbers, depth):
    """A text that the document allows, and a term for it, by rule."""
    texts, terms = [], []
    for _ in range(1 + numbers.below(3)):
        text, term = written_part(numbers, depth)
        texts.append(text)
        terms.append(term)
    return " + ".join(texts), mix(*terms)


def written_part(numbers, depth):
    """One part of such a text, and a term for it."""
    choice = numbers.below(6)
    if choice == 0:
        return "0", NOTHING
    number = numbers.below(4)
    if choice == 1 or depth == 0:
        name = ("x", "y", "xy", "abcdef")[numbers.below(4)]
        text, term = name, unknown(name)
    elif choice <= 3:
        inside = [written(numbers, depth - 1) for _ in range(numbers.below(4))]
        sign = ("F", "G", "FG", "ABCDEF")[numbers.below(4)]
        text = sign + ("(" + ", ".join(text for text, _ in inside) + ")" if inside else "")
        term = thing(sign, *[term for _, term in inside])
    else:
        text, term = written(numbers, depth - 1)
        text = "(" + text + ")"
    return (str(number) if number else "") + text, mix(*[term] * max(number, 1))


def heap(term):
    """A Counter of what stands in the term's mix; parts of things are frozen Counters, order within them unknown."""
    if term[0] == "any":
        return Counter([term])
    if term[0] == "of":
        return Counter([("of", term[1], tuple(frozenset(heap(part).items()) for part in term[2]))])
    whole = Counter()
    for part in term[1]:
        whole.update(heap(part))
    return whole


def heap_of_form(form):
    """What heap tells of a term, told of a form."""
    whole = Counter()
    for item, count in form:
        if item[0] == "of":
            item = ("of", item[1], tuple(frozenset(heap_of_form(part).items()) for part in item[2]))
        whole[item] += count
    return whole


def check_form(test, form):
    """Fails where something is no form, by the document's words."""
    test.assertIs(type(form), tuple)
    for pair in form:
        test.assertIs(type(pair), tuple)
        test.assertEqual(len(pair), 2)
        check_item(test, pair[0])
        test.assertIs(type(pair[1]), int)
        test.assertGreaterEqual(pair[1], 1)
    for (item, _), (after, _) in zip(form, form[1:]):
        test.assertLess(item, after)


def check_item(test, item):
    test.assertIs(type(item), tuple)
    if item[0] == "any":
        test.assertEqual(len(item), 2)
        test.assertRegex(item[1], r"\A[a-z]{1,6}\Z")
        return
    test.assertEqual((item[0], len(item)), ("of", 3))
    test.assertRegex(item[1], r"\A[A-Z]{1,6}\Z")
    test.assertIs(type(item[2]), tuple)
    test.assertLessEqual(len(item[2]), 3)
    for part in item[2]:
        check_form(test, part)


PARTS = {"A": 0, "B": 0, "F": 1, "G": 2, "H": 3}


def made_form(numbers, names, size, signs="ABFG"):
    """A form of at most that size, of few names and signs, so that equal items come together."""
    whole = Counter()
    while size > 0 and numbers.below(6):
        if names and numbers.below(2):
            item = ("any", names[numbers.below(len(names))])
        else:
            sign = signs[numbers.below(len(signs))]
            room = (size - 1) // max(PARTS[sign], 1)
            item = ("of", sign, tuple(made_form(numbers, names, room, signs) for _ in range(PARTS[sign])))
        whole[item] += 1
        size -= size_of(((item, 1),))
    return tuple(sorted(whole.items()))


def size_of(form):
    whole = 0
    for item, count in form:
        parts = item[2] if item[0] == "of" else ()
        whole += count * (1 + sum(size_of(part) for part in parts))
    return whole


def forms_within(form):
    """The form and the parts of its things, at any depth."""
    found = [form]
    for item, _ in form:
        if item[0] == "of":
            for part in item[2]:
                found.extend(forms_within(part))
    return found


def under_form(form):
    """All forms that can be taken from the form."""
    counts = product(*[range(count + 1) for _, count in form])
    return [tuple((item, many) for (item, _), many in zip(form, row) if many) for row in counts]


def pieces(form):
    """All forms that can be taken from the form or from a part of its things at any depth, each once."""
    return sorted({piece for whole in forms_within(form) for piece in under_form(whole)})


def replaced(form, forms):
    """The form with forms of a dict put in for its unknowns, by a Counter."""
    whole = Counter()
    for item, count in form:
        if item[0] == "of":
            whole[("of", item[1], tuple(replaced(part, forms) for part in item[2]))] += count
        else:
            for inner, often in forms.get(item[1], ((item, 1),)):
                whole[inner] += count * often
    return tuple(sorted(whole.items()))


def names_in(*forms):
    """The names of unknowns in forms at any depth, sorted, each once."""
    found = set()
    for form in forms:
        for whole in forms_within(form):
            found.update(item[1] for item, _ in whole if item[0] == "any")
    return sorted(found)


def things_in(*forms):
    """The things in forms at any depth, sorted, each once."""
    return sorted({item for form in forms for whole in forms_within(form) for item, _ in whole if item[0] == "of"})


def leads(parting, choice, names, one, other):
    """Whether one class number or name leads to another one, by the document's words."""
    if isinstance(one, str):
        return one in names and isinstance(other, int) and choice[other][list(names).index(one)] > 0
    tops = [item for thing in parting[one] for part in thing[2] for item, _ in part]
    if isinstance(other, str):
        return ("any", other) in tops
    return any(thing in tops for thing in parting[other])


def goes_round(parting, choice, names, found):
    """Whether a tuple is a round of the choice."""
    nodes = list(range(len(parting))) + list(names)
    if len(found) == 0 or len(set(found)) < len(found) or any(node not in nodes for node in found):
        return False
    return all(leads(parting, choice, names, node, after) for node, after in zip(found, found[1:] + found[:1]))


def has_round(parting, choice, names):
    """Whether one comes from a class back to it, told by what is left when ends are taken away again and again."""
    left = list(range(len(parting))) + list(names)
    before = None
    while before != left:
        before = left
        left = [node for node in left if any(leads(parting, choice, names, node, after) for after in left)]
    return bool(left)


def made_pair(numbers, names, room, signs="AFG"):
    """Two forms, made by rule, that may well be made alike."""
    one, other = made_form(numbers, names, room, signs), made_form(numbers, names, room, signs)
    if numbers.below(3) == 0:
        forms = {name: made_form(numbers, names, 2, "A") for name in names}
        other = replaced(one, forms)
    return one, other
