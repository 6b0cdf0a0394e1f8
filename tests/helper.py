"""What the tests share: terms written shortly, terms and texts made by rule, and a second, slower way to a form."""

from collections import Counter


def unknown(name):
    return ("any", name)


def thing(sign, *parts):
    return ("of", sign, tuple(parts))


def mix(*parts):
    return ("mix", tuple(parts))


NOTHING = mix()


class Numbers:
    """Numbers that look thrown but are the same in each run."""

    def __init__(self, seed):
        self.state = seed

    def below(self, bound):
        self.state = (self.state * 6364136223846793005 + 1442695040888963407) % 2 ** 64
        return (self.state >> 33) % bound

    def shuffled(self, things):
        left, order = list(things), []
        while left:
            order.append(left.pop(self.below(len(left))))
        return order


def made_term(numbers, depth):
    """A term no deeper than told, of few names and signs, so that equal items come together."""
    choice = numbers.below(5)
    if depth == 0 or choice == 0:
        return unknown("xyz"[numbers.below(3)])
    if choice <= 2:
        return thing("FG"[numbers.below(2)], *[made_term(numbers, depth - 1) for _ in range(numbers.below(4))])
    return mix(*[made_term(numbers, depth - 1) for _ in range(numbers.below(5))])


def regrouped(numbers, term):
    """The term with its mixes ordered and grouped anew, nothing put in, and mixes of one part made."""
    if term[0] == "any":
        new = term
    elif term[0] == "of":
        new = thing(term[1], *[regrouped(numbers, part) for part in term[2]])
    else:
        parts = numbers.shuffled([regrouped(numbers, part) for part in term[1]])
        cut = numbers.below(len(parts) + 1)
        groups = [mix(*parts[:cut])] + parts[cut:]
        new = mix(*numbers.shuffled(groups))
    return (new, mix(new), mix(NOTHING, new), mix(new, NOTHING))[numbers.below(4)]


def written(numbers, depth):
    """A text that the document allows, and a term for it, by rule."""
    texts, terms = [], []
    for _ in range(1 + numbers.below(3)):
        text, term = written_part(numbers, depth)
        texts.append(text)
        terms.append(term)
    return " + ".join(texts), mix(*terms)


def written_part(numbers, depth):
    """One part of such a text, and a term for it."""
    choice = numbers.below(6)
    if choice == 0:
        return "0", NOTHING
    number = numbers.below(4)
    if choice == 1 or depth == 0:
        name = ("x", "y", "xy", "abcdef")[numbers.below(4)]
        text, term = name, unknown(name)
    elif choice <= 3:
        inside = [written(numbers, depth - 1) for _ in range(numbers.below(4))]
        sign = ("F", "G", "FG", "ABCDEF")[numbers.below(4)]
        text = sign + ("(" + ", ".join(text for text, _ in inside) + ")" if inside else "")
        term = thing(sign, *[term for _, term in inside])
    else:
        text, term = written(numbers, depth - 1)
        text = "(" + text + ")"
    return (str(number) if number else "") + text, mix(*[term] * max(number, 1))


def heap(term):
    """A Counter of what stands in the term's mix; parts of things are frozen Counters, order within them unknown."""
    if term[0] == "any":
        return Counter([term])
    if term[0] == "of":
        return Counter([("of", term[1], tuple(frozenset(heap(part).items()) for part in term[2]))])
    whole = Counter()
    for part in term[1]:
        whole.update(heap(part))
    return whole


def heap_of_form(form):
    """What heap tells of a term, told of a form."""
    whole = Counter()
    for item, count in form:
        if item[0] == "of":
            item = ("of", item[1], tuple(frozenset(heap_of_form(part).items()) for part in item[2]))
        whole[item] += count
    return whole


def check_form(test, form):
    """Fails where something is no form, by the document's words."""
    test.assertIs(type(form), tuple)
    for pair in form:
        test.assertIs(type(pair), tuple)
        test.assertEqual(len(pair), 2)
        check_item(test, pair[0])
        test.assertIs(type(pair[1]), int)
        test.assertGreaterEqual(pair[1], 1)
    for (item, _), (after, _) in zip(form, form[1:]):
        test.assertLess(item, after)


def check_item(test, item):
    test.assertIs(type(item), tuple)
    if item[0] == "any":
        test.assertEqual(len(item), 2)
        test.assertRegex(item[1], r"\A[a-z]{1,6}\Z")
        return
    test.assertEqual((item[0], len(item)), ("of", 3))
    test.assertRegex(item[1], r"\A[A-Z]{1,6}\Z")
    test.assertIs(type(item[2]), tuple)
    test.assertLessEqual(len(item[2]), 3)
    for part in item[2]:
        check_form(test, part)
