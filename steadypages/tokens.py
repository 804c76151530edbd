"""The tokens of readers: points [15] and [18]."""

from steadypages.errors import BadMark, BadToken
from steadypages.marks import compare_marks, is_mark
from steadypages.values import is_integer
from steadypages.views import is_view

MOST_COUNTED = 10 ** 6


def is_token(value, width):
    """Return whether any value is a window token or a top token for this number of columns."""
    if not isinstance(value, tuple) or len(value) < 3:
        return False
    if not is_view(value[1], width) or not is_integer(value[2]) or value[2] < 0:
        return False
    if value[0] == "window":
        return len(value) == 5 and are_window_marks(value[1], value[3], value[4])
    return value[0] == "top" and len(value) == 4 and is_top_count(value[3])


def are_window_marks(view, low, high):
    """Return whether any two values are marks of a view, the first not after the second."""
    return is_mark(view, low) and is_mark(view, high) and compare_marks(view, low, high) <= 0


def is_top_count(value):
    """Return whether any value is a count of a top token."""
    return is_integer(value) and 0 <= value <= MOST_COUNTED


def check_window(token):
    """Raise BadToken for a top token."""
    if token[0] != "window":
        raise BadToken(token)


def is_within(view, mark, low, high):
    """Return whether a mark of a view is neither before one mark nor after another."""
    return compare_marks(view, low, mark) <= 0 and compare_marks(view, mark, high) <= 0


def split_token(token, mark):
    """Return the tuple of the tokens before and behind a mark of a window token."""
    check_window(token)
    kind, view, version, low, high = token
    if not is_within(view, mark, low, high):
        raise BadMark(mark)
    return ((kind, view, version, low, mark), (kind, view, version, mark, high))


def narrow_token(token, low, high):
    """Return the part of a window token between two marks."""
    check_window(token)
    kind, view, version, least, greatest = token
    if not is_within(view, low, least, greatest) or compare_marks(view, low, high) > 0:
        raise BadMark(low)
    if not is_within(view, high, least, greatest):
        raise BadMark(high)
    return (kind, view, version, low, high)


def join_tokens(first, second):
    """Return the token of two window tokens, of which the second begins where the first one ends."""
    check_window(first)
    check_window(second)
    kind, view, version, low, high = first
    if second[1:4] != (view, version, high):
        raise BadToken(second)
    return (kind, view, version, low, second[4])
