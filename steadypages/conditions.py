"""Conditions on the values of a row: point [4]."""

from steadypages.values import compare_values, is_integer, is_string, is_value

GREATEST_DEPTH = 8
MOST_CHOICES = 8


def is_condition(value, width):
    """Return whether any value is a condition whose columns are less than width."""
    return is_condition_within(value, width, GREATEST_DEPTH)


def is_condition_within(value, width, depth):
    """Return whether any value is a condition of at most this depth."""
    # The depth is counted on the way down: a deep value that holds the same
    # part many times would otherwise take a number of steps beyond all bounds.
    if depth == 0 or not isinstance(value, tuple) or len(value) == 0:
        return False
    kind = value[0]
    if kind == "all":
        return len(value) == 1
    if kind == "not":
        return len(value) == 2 and is_condition_within(value[1], width, depth - 1)
    if len(value) != 3:
        return False
    if kind in ("and", "or"):
        return all([is_condition_within(part, width, depth - 1) for part in value[1:]])
    return is_column(value[1], width) and is_operand(kind, value[2])


def is_column(value, width):
    """Return whether any value is the index of one of width columns."""
    return is_integer(value) and 0 <= value < width


def is_operand(kind, value):
    """Return whether any kind is that of a test of a column against any value."""
    if kind in ("equal", "less"):
        return is_value(value)
    if kind == "starts":
        return is_string(value) and value != ""
    return kind == "one_of" and is_choice(value)


def is_choice(value):
    """Return whether any value is a tuple of as many values as one_of takes."""
    if not isinstance(value, tuple) or not 1 <= len(value) <= MOST_CHOICES:
        return False
    return all([is_value(item) for item in value])


def matches(condition, values):
    """Return whether the values of a row satisfy a condition."""
    kind = condition[0]
    if kind == "all":
        return True
    if kind == "not":
        return not matches(condition[1], values)
    if kind == "and":
        return matches(condition[1], values) and matches(condition[2], values)
    if kind == "or":
        return matches(condition[1], values) or matches(condition[2], values)
    return passes(kind, values[condition[1]], condition[2])


def passes(kind, value, operand):
    """Return whether a value of a row passes the test of this kind against an operand."""
    if kind == "equal":
        return value == operand
    if kind == "less":
        return compare_values(value, operand) < 0
    if kind == "starts":
        return isinstance(value, str) and value.startswith(operand)
    return value in operand
