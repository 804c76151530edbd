"""Marks, the places between the keys of a view: point [8]."""

from steadypages.values import is_row_id, is_value
from steadypages.views import compare_places, key_place


def is_mark(view, value):
    """Return whether any value is a mark of a view."""
    if not isinstance(value, tuple) or len(value) == 0:
        return False
    if value[0] in ("start", "end"):
        return len(value) == 1
    return value[0] in ("before", "after") and len(value) == 2 and is_key(view, value[1])


def is_key(view, value):
    """Return whether any value could be the key of a row in a view."""
    if not isinstance(value, tuple) or len(value) != len(view[1]) + 1:
        return False
    return all([is_value(item) for item in value[:-1]]) and is_row_id(value[-1])


def mark_place(view, mark):
    """Return a tuple that Python orders among others as the view orders its marks."""
    kind = mark[0]
    if kind == "start":
        return (0,)
    if kind == "end":
        return (2,)
    return (1, key_place(view, mark[1]), 0 if kind == "before" else 1)


def compare_marks(view, first, second):
    """Return -1, 0 or 1: how two marks of a view are ordered."""
    return compare_places(mark_place(view, first), mark_place(view, second))


def is_between(view, key, low, high):
    """Return whether a key of a view is between two marks."""
    if compare_marks(view, low, ("before", key)) > 0:
        return False
    return compare_marks(view, high, ("after", key)) >= 0
