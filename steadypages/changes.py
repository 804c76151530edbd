"""The windows of a view and the change sets between them: points [9], [12] and [13]."""

from steadypages.copies import copy_of
from steadypages.errors import Mismatch
from steadypages.marks import is_between
from steadypages.views import delivered_row, key_place


def window_rows(table, view, version, low, high):
    """Return the list of the delivered rows of a window at a known version, in the order of keys."""
    rows = table.rows_at(version)
    listed = [delivered_row(view, row_id, rows[row_id]) for row_id in rows]
    window = [row for row in listed if row is not None and is_between(view, row[0], low, high)]
    return sorted(window, key=lambda delivered: key_place(view, delivered[0]))


def change_set(table, view, since, until, low, high):
    """Return the change set of a view between two known versions and two marks."""
    before = copy_of(window_rows(table, view, since, low, high))
    after = copy_of(window_rows(table, view, until, low, high))
    return changes_between(before, after)


def changes_between(before, after):
    """Return the change set that turns one copy into another, in ascending order of ids."""
    pairs = {row_id: (before.get(row_id), after.get(row_id)) for row_id in sorted({**before, **after})}
    return without_equal(pairs)


def without_equal(pairs):
    """Return a change set of the pairs whose before and after differ."""
    return {row_id: pairs[row_id] for row_id in pairs if pairs[row_id][0] != pairs[row_id][1]}


def invert(changes):
    """Return the change set that undoes a change set."""
    return {row_id: (changes[row_id][1], changes[row_id][0]) for row_id in changes}


def compose(first, second):
    """Return the change set that does what two change sets do one after the other."""
    pairs = {}
    for row_id in sorted({**first, **second}):
        if row_id not in first:
            pairs[row_id] = second[row_id]
        elif row_id not in second:
            pairs[row_id] = first[row_id]
        elif first[row_id][1] == second[row_id][0]:
            pairs[row_id] = (first[row_id][0], second[row_id][1])
        else:
            raise Mismatch(row_id)
    return without_equal(pairs)


def restrict(view, changes, low, high):
    """Return the part of a change set between two marks."""
    pairs = {}
    for row_id in changes:
        before, after = changes[row_id]
        pairs[row_id] = (row_within(view, before, low, high), row_within(view, after, low, high))
    return without_equal(pairs)


def row_within(view, delivered, low, high):
    """Return a delivered row if its key is between two marks, otherwise None; None stays None."""
    if delivered is None or not is_between(view, delivered[0], low, high):
        return None
    return delivered


def hide_columns(changes, places):
    """Return a change set with only those shown values that are at the given positions."""
    pairs = {}
    for row_id in changes:
        before, after = changes[row_id]
        pairs[row_id] = (row_showing(before, places), row_showing(after, places))
    return without_equal(pairs)


def row_showing(delivered, places):
    """Return a delivered row with only the shown values at the given positions; None stays None."""
    if delivered is None:
        return None
    key, shown = delivered
    return (key, tuple([shown[place] for place in places]))
