"""Values, their order, columns and rows: point [3]."""

GREATEST_INTEGER = 10 ** 9
LONGEST_STRING = 20
MOST_COLUMNS = 6
LONGEST_NAME = 8
GREATEST_ID = 10 ** 6
# The words of the text of a condition cannot be names of columns.
BARRED_NAMES = ("all", "and", "in", "none", "not", "or", "starts")


def is_integer(value):
    """Return whether any value is an integer."""
    # Python counts True and False among the ints.
    return isinstance(value, int) and not isinstance(value, bool)


def is_string(value):
    """Return whether any value is a string that is a value."""
    if not isinstance(value, str) or len(value) > LONGEST_STRING:
        return False
    return all([" " <= sign <= "~" for sign in value])


def is_value(value):
    """Return whether any value is a value."""
    if is_integer(value):
        return -GREATEST_INTEGER <= value <= GREATEST_INTEGER
    return value is None or is_string(value)


def kind_place(value):
    """Return the place of the kind of a value in the order of values."""
    if value is None:
        return 0
    if isinstance(value, str):
        return 2
    return 1


def compare_values(first, second):
    """Return -1, 0 or 1: how two values are ordered."""
    if first == second:
        return 0
    first_place = kind_place(first)
    second_place = kind_place(second)
    if first_place == second_place:
        return -1 if first < second else 1
    return -1 if first_place < second_place else 1


def is_name(value):
    """Return whether any value is a string of 1 to 8 letters a to z."""
    if not isinstance(value, str) or not 1 <= len(value) <= LONGEST_NAME:
        return False
    return all(["a" <= sign <= "z" for sign in value])


def is_column_name(value):
    """Return whether any value is the name of a column."""
    return is_name(value) and value not in BARRED_NAMES


def is_columns(value):
    """Return whether any value is a tuple of columns."""
    if not isinstance(value, tuple) or not 1 <= len(value) <= MOST_COLUMNS:
        return False
    if not all([is_column_name(name) for name in value]):
        return False
    return len(set(value)) == len(value)


def is_row_id(value):
    """Return whether any value is the id of a row."""
    return is_integer(value) and 1 <= value <= GREATEST_ID


def is_row(columns, value):
    """Return whether any value is a row for these columns."""
    if not isinstance(value, tuple) or len(value) != 2:
        return False
    row_id, values = value
    if not is_row_id(row_id) or not isinstance(values, tuple):
        return False
    return len(values) == len(columns) and all([is_value(item) for item in values])
