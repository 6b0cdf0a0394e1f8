"""Texts read as forms.

What reads a piece of a text is handed the place where the piece begins, and tells what it read and the place behind.
"""

from mixform.errors import NoText
from mixform.forms import plus, times

MOST_SIGNS = 600
MOST_DEEP = 20
MOST_FIGURES = 18
MOST_LETTERS = 6
MOST_PARTS = 3


def read(text):
    """The form that a text is written for, or NoText."""
    if not isinstance(text, str):
        raise NoText("this is no text")
    if len(text) > MOST_SIGNS:
        raise NoText(f"the text has more than {MOST_SIGNS} signs")
    form, at = read_sum(text, 0, 0)
    if at < len(text):
        raise NoText(f"nothing can be read at sign {at}")
    return form


def read_sum(text, at, deep):
    """Parts with a plus between them, added up; deep is the number of brackets around them."""
    form, at = read_part(text, at, deep)
    while text[at:at + 3] == " + ":
        part, at = read_part(text, at + 3, deep)
        form = plus(form, part)
    return form, at


def read_part(text, at, deep):
    """Nothing, or what stands once, perhaps with a number ahead."""
    if text[at:at + 1] == "0":
        return (), at + 1
    number, at = read_number(text, at)
    form, at = read_once(text, at, deep)
    return times(number, form), at


def read_number(text, at):
    """A whole number, 1 where there is none; what begins with 0 is no number and never comes here."""
    end = run_end(text, at, "0", "9")
    if end == at:
        return 1, at
    if end - at > MOST_FIGURES:
        raise NoText(f"a number of more than {MOST_FIGURES} figures at sign {at}")
    return int(text[at:end]), end


def read_once(text, at, deep):
    """An unknown, a thing, or a sum in round brackets."""
    if text[at:at + 1] == "(":
        parts, end = read_brackets(text, at, deep, 1)
        return parts[0], end
    end = word_end(text, at, "a", "z")
    if end > at:
        return ((("any", text[at:end]), 1),), end
    end = word_end(text, at, "A", "Z")
    if end == at:
        raise NoText(f"neither name nor sign nor bracket at sign {at}")
    sign = text[at:end]
    parts = ()
    if text[end:end + 1] == "(":
        parts, end = read_brackets(text, end, deep, MOST_PARTS)
    return ((("of", sign, parts), 1),), end


def read_brackets(text, at, deep, most):
    """The forms in the round brackets that open at the place: one at least, and no more than most."""
    if deep == MOST_DEEP:
        raise NoText(f"brackets more than {MOST_DEEP} deep at sign {at}")
    form, at = read_sum(text, at + 1, deep + 1)
    forms = [form]
    while len(forms) < most and text[at:at + 2] == ", ":
        form, at = read_sum(text, at + 2, deep + 1)
        forms.append(form)
    if text[at:at + 1] != ")":
        raise NoText(f"no closing bracket at sign {at}")
    return tuple(forms), at + 1


def word_end(text, at, first, last):
    """The place behind the letters from first to last that begin here, which are no more than a word may have."""
    end = run_end(text, at, first, last)
    if end - at > MOST_LETTERS:
        raise NoText(f"a word of more than {MOST_LETTERS} letters at sign {at}")
    return end


def run_end(text, at, first, last):
    """The place behind the signs from first to last that begin here."""
    end = at
    while end < len(text) and first <= text[end] <= last:
        end += 1
    return end
