"""Rules worked on a form, as long as one can be used."""

from mixform.errors import TooMany
from mixform.rules import uses


def first_done(rules, form):
    """The number of the first rule that has a use, and the result of its first use; None where none has one."""
    for number, one in enumerate(rules):
        found = uses(one, form)
        if found:
            return number, found[0][3]
    return None


def worked(rules, form, most=20):
    """What is done, as a list of tuples (number of the rule, result)."""
    done = []
    step = first_done(rules, form)
    while step is not None:
        if len(done) == most:
            raise TooMany(f"there is more to do than {most} times")
        done.append(step)
        step = first_done(rules, step[1])
    return done
