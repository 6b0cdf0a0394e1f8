"""The paper that tells why two forms can't be made alike: for each parting a reason that can be walked."""

from mixform.alike import all_ways
from mixform.choices import choices, is_round, round_of, solutions_by_class, steps_of
from mixform.partings import names_of, partings, things_of


class Reason:
    """Why no way comes of a parting; by itself it tells nothing and holds of no forms."""

    def __init__(self, parting):
        self.parting = parting

    def holds(self, one, other):
        """Whether this is a reason for two forms."""
        return False


class Counts(Reason):
    """A class has no solution for its right."""

    def __init__(self, parting, at):
        Reason.__init__(self, parting)
        self.at = at

    def holds(self, one, other):
        """Whether the class is there and has no solution."""
        if not is_parting_of(self.parting, one, other):
            return False
        by_class = solutions_by_class(self.parting, one, other)
        return 0 <= self.at < len(by_class) and len(by_class[self.at]) == 0


class Within(Reason):
    """Each choice has a round."""

    def __init__(self, parting, rounds):
        Reason.__init__(self, parting)
        self.rounds = list(rounds)

    def holds(self, one, other):
        """Whether there are choices, and the rounds are rounds of theirs, one for each."""
        if not is_parting_of(self.parting, one, other):
            return False
        found = choices(self.parting, one, other)
        # There is a choice just where each class has a solution.
        if len(found) == 0 or len(found) != len(self.rounds):
            return False
        names = names_of(one, other)
        walks = [steps_of(self.parting, choice, names) for choice in found]
        return all([is_round(steps, nodes) for steps, nodes in zip(walks, self.rounds)])


def is_parting_of(parting, one, other):
    """Whether a parting is just one of those of the two forms' things."""
    return parting in partings(things_of(one, other))


def reason_for(parting, one, other):
    """The reason why no way comes of a parting, of which none comes."""
    for at, rows in enumerate(solutions_by_class(parting, one, other)):
        if not rows:
            return Counts(parting, at)
    names = names_of(one, other)
    return Within(parting, [round_of(parting, choice, names) for choice in choices(parting, one, other)])


def why(one, other):
    """A reason for each parting, or None where there is a way that makes the two forms alike."""
    if all_ways(one, other):
        return None
    return [reason_for(parting, one, other) for parting in partings(things_of(one, other))]
