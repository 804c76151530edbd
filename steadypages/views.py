"""Views of a table, their keys and their delivered rows: points [6] and [7]."""

from steadypages.conditions import is_column, is_condition, matches
from steadypages.values import kind_place

MOST_ORDERED = 4


def is_view(value, width):
    """Return whether any value is a view for this number of columns."""
    if not isinstance(value, tuple) or len(value) != 3:
        return False
    condition, order, shown = value
    return is_condition(condition, width) and is_order(order, width) and is_shown(shown, width)


def is_order(value, width):
    """Return whether any value is the order of a view."""
    if not isinstance(value, tuple) or len(value) > MOST_ORDERED:
        return False
    if not all([is_order_pair(pair, width) for pair in value]):
        return False
    return len({pair[0] for pair in value}) == len(value)


def is_order_pair(value, width):
    """Return whether any value is a column and whether it is descending."""
    if not isinstance(value, tuple) or len(value) != 2:
        return False
    return is_column(value[0], width) and isinstance(value[1], bool)


def is_shown(value, width):
    """Return whether any value is the shown columns of a view."""
    if not isinstance(value, tuple) or not all([is_column(column, width) for column in value]):
        return False
    return list(value) == sorted(set(value))


def key_of(view, row_id, values):
    """Return the key of a row, whether it satisfies the condition of the view or not."""
    ordered = [values[column] for column, descending in view[1]]
    return (*ordered, row_id)


def delivered_row(view, row_id, values):
    """Return the delivered row, or None if the row does not satisfy the condition of the view."""
    condition, order, shown = view
    if not matches(condition, values):
        return None
    return (key_of(view, row_id, values), tuple([values[column] for column in shown]))


def compare_keys(view, first, second):
    """Return -1, 0 or 1: how two keys of a view are ordered."""
    return compare_places(key_place(view, first), key_place(view, second))


def compare_places(first, second):
    """Return -1, 0 or 1: how Python orders two tuples."""
    if first == second:
        return 0
    return -1 if first < second else 1


def key_place(view, key):
    """Return a tuple that Python orders among others as the view orders its keys."""
    places = [value_place(value, descending) for value, (column, descending) in zip(key, view[1])]
    return (*places, key[-1])


def value_place(value, descending):
    """Return a tuple that Python orders among others as a column orders its values."""
    kind = kind_place(value)
    if value is None:
        return (kind,)
    if not descending:
        return (kind, value)
    if isinstance(value, str):
        # The 1 comes after every negative code, so that a string comes after all
        # longer ones that start with it.
        codes = [-ord(sign) for sign in value]
        return (-kind, (*codes, 1))
    return (-kind, -value)
