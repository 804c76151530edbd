"""Opening views, debts and pages: points [15], [16] and [17]."""

from steadypages.changes import changes_between, window_rows
from steadypages.copies import copy_of, corrections_of
from steadypages.errors import BadCount
from steadypages.tokens import check_window
from steadypages.values import is_integer

START = ("start",)
END = ("end",)


def open_window(table, view, *, mark=START):
    """Return the window token of the present version whose marks are both this mark."""
    return ("window", view, table.present(), mark, mark)


def open_top(table, view, count):
    """Return the list of the first count delivered rows and the top token of the present version."""
    token = ("top", view, table.present(), count)
    return (token_rows(table, token, table.present()), token)


def token_rows(table, token, version):
    """Return the rows that the marks or the count of a token cut out of its list at a known version."""
    kind, view = token[:2]
    if kind == "window":
        return window_rows(table, view, version, token[3], token[4])
    return window_rows(table, view, version, START, END)[:max(0, token[3])]


def debt_of(table, token):
    """Return the debt of a token, a list of corrections."""
    before = copy_of(token_rows(table, token, token[2]))
    after = copy_of(token_rows(table, token, table.present()))
    return corrections_of(changes_between(before, after))


def page(table, token, count, *, back=False):
    """Return the tuple of the debt, the rows and the new token of a page of a window token."""
    check_window(token)
    check_count(count)
    debt = debt_of(table, token)
    rows = rows_beyond(table, token, count, back)
    low, high = moved_marks(token, rows, count, back)
    return (debt, rows, ("window", token[1], table.present(), low, high))


def catch_up(table, token):
    """Return the tuple of the debt of a token and the same token with the present version."""
    kind, view, version, *rest = token
    return (debt_of(table, token), (kind, view, table.present(), *rest))


def check_count(count):
    """Raise BadCount for any value that is not an integer from 0 on."""
    if not is_integer(count) or count < 0:
        raise BadCount(count)


def rows_beyond(table, token, count, back):
    """Return the first count rows of the present list behind a token, or before it, from its mark on."""
    if back:
        return window_rows(table, token[1], table.present(), START, token[3])[::-1][:count]
    return window_rows(table, token[1], table.present(), token[4], END)[:count]


def moved_marks(token, rows, count, back):
    """Return the marks of a token after a page with these rows."""
    low, high = token[3:]
    if back:
        return (moved_mark(low, rows, count, "before", START), high)
    return (low, moved_mark(high, rows, count, "after", END))


def moved_mark(mark, rows, count, side, bound):
    """Return where a page with these rows moves a mark: not, beside the last row, or to the bound."""
    if count == 0:
        return mark
    if len(rows) < count:
        return bound
    return (side, rows[-1][0])
