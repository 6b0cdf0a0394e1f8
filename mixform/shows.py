"""Forms shown as texts."""

from mixform.forms import parts_of


def shown(form):
    """A form's items in their order with their counts, or 0 for nothing."""
    if not form:
        return "0"
    return " + ".join([shown_pair(item, count) for item, count in form])


def shown_pair(item, count):
    """An item, and ahead of it its count where that isn't 1."""
    if count == 1:
        return shown_item(item)
    return str(count) + shown_item(item)


def shown_item(item):
    """A name or a sign, and the parts in round brackets where there are any."""
    parts = parts_of(item)
    if not parts:
        return item[1]
    inside = ", ".join([shown(part) for part in parts])
    return f"{item[1]}({inside})"
