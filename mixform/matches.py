"""Patterns matched with forms.

A bond is a pattern and the form that it must become; several bonds are matched at once, all by one way. First it is
settled which thing of the forms each thing of the patterns becomes. Then the items of the forms are shared out among
the unknowns, each item by itself: how often one item stands in an unknown makes no difference to the others.

Things may stand too deep in one another for keys of a dict, so an item goes here by its text, as it is shown. A heap
is a form as a dict of such texts with their counts, and bonds are here pairs of heaps: (asked, given). Settled is a
dict that tells for some texts of the patterns' items the heaps that these become.
"""

from mixform.errors import TooMany
from mixform.forms import gathered, parts_of
from mixform.measures import items_within, size, unknowns
from mixform.shows import shown_item

MOST_SIZE = 10
MOST_UNKNOWNS = 3


def matches(pattern, form, most=100):
    """All ways that make the pattern the form, sorted."""
    if size(form) > MOST_SIZE:
        raise TooMany(f"the form has a size above {MOST_SIZE}")
    if len(unknowns(pattern)) > MOST_UNKNOWNS:
        raise TooMany(f"the pattern has more than {MOST_UNKNOWNS} unknowns")
    found = ways_for([(pattern, form)], most + 1)
    if len(found) > most:
        raise TooMany(f"there are more than {most} matches")
    return sorted(found)


def ways_for(pairs, most):
    """Ways, no more than most, that make the pattern of each pair (pattern, form) its form."""
    search = Search([pattern for pattern, form in pairs], [form for pattern, form in pairs], most)
    found = []
    for bonds, settled in search.steps([], [(heap_of(pattern), heap_of(form)) for pattern, form in pairs], {}):
        found.extend(search.ways(bonds, settled))
    return found[:most]


def heap_of(form):
    """A form as a dict of its items' texts with their counts."""
    return {shown_item(item): count for item, count in form}


def is_thing(text):
    """Whether an item of this text is a thing: signs have capital letters."""
    return "A" <= text[0] <= "Z"


class Side:
    """The items at any depth of the patterns, or of the forms, by their texts."""

    def __init__(self, forms):
        self.found = {shown_item(item): item for form in forms for item in items_within(form)}
        self.heaps = {text: [heap_of(part) for part in parts_of(item)] for text, item in self.found.items()}

    def kind(self, text):
        """What things of one kind have in common, or None for an unknown."""
        if is_thing(text):
            return self.found[text][1], len(self.heaps[text])
        return None

    def summed(self, heap, kind):
        """The parts of the heap's things of a kind, added up part by part."""
        sums = [{} for part in range(kind[1])]
        for text, count in heap.items():
            if self.kind(text) == kind:
                for whole, part in zip(sums, self.heaps[text]):
                    for inner, often in part.items():
                        whole[inner] = whole.get(inner, 0) + count * often
        return sums


class Search:
    """The search for ways, no more than most, and what it looks up."""

    def __init__(self, patterns, forms, most):
        self.asked = Side(patterns)
        self.given = Side(forms)
        self.most = most

    def ways(self, bonds, settled):
        """Ways that fit the bonds, in which nothing that is settled is asked."""
        chances = self.chances(bonds)
        if not chances:
            return self.shared_out(bonds, settled)
        found = []
        for left, known in self.fewest_steps(bonds, settled, chances):
            if len(found) < self.most:
                found.extend(self.ways(left, known))
        return found

    def chances(self, bonds):
        """For each thing asked at the top of a bond, what it may become as far as kinds and counts tell."""
        found = {}
        for asked, given in bonds:
            for text, count in asked.items():
                if is_thing(text):
                    kind = self.asked.kind(text)
                    enough = [one for one in given if given[one] >= count and self.given.kind(one) == kind]
                    found[text] = [one for one in found.get(text, enough) if one in enough]
        return found

    def fewest_steps(self, bonds, settled, chances):
        """What comes where one thing is settled: one that may become as few things as any."""
        fewest = None
        for thing in sorted(chances, key=lambda text: len(chances[text])):
            if fewest is None or len(fewest) > 1:
                steps = []
                for text in chances[thing]:
                    known = dict(settled)
                    known[thing] = {text: 1}
                    inner = list(zip(self.asked.heaps[thing], self.given.heaps[text]))
                    steps.extend(self.steps(bonds, inner, known))
                if fewest is None or len(steps) < len(fewest):
                    fewest = steps
        return fewest

    def steps(self, bonds, added, settled):
        """All bonds and what is settled, as far as that can be told at once: one such pair, or none if nothing fits."""
        step = cleared(bonds + self.with_sums(added), settled)
        if step is None or not can_fit(step[0], self.chances(step[0])):
            return []
        return [step]

    def with_sums(self, bonds):
        """The bonds and what follows from them: parts added up come to the same where no unknown may take a thing."""
        done = []
        left = list(bonds)
        while left:
            asked, given = left.pop()
            done.append((asked, given))
            if all([is_thing(text) for text in asked]):
                for kind in {self.asked.kind(text): True for text in asked}:
                    left.extend(list(zip(self.asked.summed(asked, kind), self.given.summed(given, kind))))
        return done

    def shared_out(self, bonds, settled):
        """The ways that fit bonds of unknowns alone."""
        found = [[]]
        for text in given_texts(bonds):
            # Each item can be shared out, so of the ways so far no more than most are needed.
            each = sharings(bonds, {}, text, self.most)
            found = [shares + [(text, sharing)] for shares in found for sharing in each][:self.most]
        return [self.way(shares, settled) for shares in found]

    def way(self, shares, settled):
        """The way that has what is settled, and for other unknowns their numbers of each item."""
        pairs = []
        for name in sorted([text for text in self.asked.found if not is_thing(text)]):
            heap = settled.get(name, {text: sharing[name] for text, sharing in shares if name in sharing})
            pairs.append((name, gathered([(self.given.found[text], heap[text]) for text in heap if heap[text] > 0])))
        return tuple(pairs)


def cleared(bonds, settled):
    """The bonds without what is settled, and what is settled then; None where they can't be fitted.

    An unknown that is asked alone is settled by that.
    """
    known = dict(settled)
    left = without(bonds, known)
    while left is not None:
        alone = [bond for bond in left if len(bond[0]) == 1 and not is_thing(list(bond[0])[0])]
        if not alone:
            return left, known
        asked, given = alone[0]
        for name, count in asked.items():
            known[name] = {text: given[text] // count for text in given}
        left = without(left, known)
    return None


def without(bonds, settled):
    """The bonds without what is settled and what that becomes; None where too little or too much is given."""
    found = []
    for asked, given in bonds:
        left = dict(given)
        for text, count in asked.items():
            for part, often in settled.get(text, {}).items():
                left[part] = left.get(part, 0) - count * often
        asked_still = {text: count for text, count in asked.items() if text not in settled}
        given_still = {text: count for text, count in left.items() if count > 0}
        if any([count < 0 for count in left.values()]) or (given_still and not asked_still):
            return None
        if asked_still and (asked_still, given_still) not in found:
            found.append((asked_still, given_still))
    return found


def given_texts(bonds):
    """The texts of all items given at the top of bonds."""
    return list({text: True for asked, given in bonds for text in given})


def can_fit(bonds, chances):
    """Whether each item by itself can be shared out, and there are things enough for those that need one."""
    needing = 0
    for text in given_texts(bonds):
        if not sharings(bonds, {}, text, 1):
            needing += 1
            if not sharings(bonds, chances, text, 1):
                return False
    return needing <= len(chances) and all([len(chances[thing]) > 0 for thing in chances])


def sharings(bonds, chances, text, most):
    """How often an item may stand in each unknown, and whether each thing that is asked becomes it."""
    barred = {}
    rows = []
    for asked, given in bonds:
        if text in given:
            rows.append((asked, given[text]))
        else:
            barred.update(asked)
    takers = {}
    for asked, goal in rows:
        for taker in asked:
            if taker not in barred and (not is_thing(taker) or text in chances.get(taker, ())):
                takers[taker] = True
    columns = [tuple([asked.get(taker, 0) for asked, goal in rows]) for taker in takers]
    once = [is_thing(taker) for taker in takers]
    found = numbers_for(columns, once, tuple([goal for asked, goal in rows]), most, {})
    return [dict(zip(takers, numbers)) for numbers in found]


def numbers_for(columns, once, goals, most, dead):
    """Numbers for the columns that come to the goals, no more than most tuples; at most 1 where once says so.

    Dead are the goals that can't be come to, by how many columns are left, so that each is gone through but once.
    """
    if not any(goals):
        return [(0,) * len(columns)]
    if not columns or (len(columns), goals) in dead:
        return []
    column = columns[0]
    top = min([goal // number for number, goal in zip(column, goals) if number > 0])
    found = []
    for number in range(min(top, 1) if once[0] else top, -1, -1):
        left = tuple([goal - number * part for part, goal in zip(column, goals)])
        rest = numbers_for(columns[1:], once[1:], left, most - len(found), dead)
        found.extend([(number,) + numbers for numbers in rest])
        if len(found) == most:
            break
    if not found:
        dead[(len(columns), goals)] = True
    return found
