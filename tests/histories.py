"""Tables with histories, and windows and pages that are worked out in a plain way, for the tests."""

import functools
import random

from steadypages.marks import is_between
from steadypages.tables import Table
from steadypages.views import compare_keys, delivered_row

ALL = ("all",)
START, END = ("start",), ("end",)
COLUMNS = ("size", "name")
VIEW = (ALL, ((0, False),), (0,))
VIEWS = (
    VIEW,
    (ALL, (), (0, 1)),
    (ALL, ((0, True),), (1,)),
    (("less", 0, 7), ((1, True), (0, False)), ()),
    (("not", ("starts", 1, "a")), ((1, False),), (0, 1)),
)


def in_key_order(view, rows):
    """Return delivered rows in the order of their keys."""
    return sorted(rows, key=functools.cmp_to_key(lambda first, second: compare_keys(view, first[0], second[0])))


def plain_window(table, view, version, low=START, high=END):
    """Return the delivered rows of a window, in the order of keys."""
    rows = [delivered_row(view, row_id, values) for row_id, values in table.rows_at(version).items()]
    return in_key_order(view, [row for row in rows if row and is_between(view, row[0], low, high)])


def plain_copy(table, view, version, low=START, high=END):
    """Return the copy that is true for a window."""
    return {row[0][-1]: row for row in plain_window(table, view, version, low, high)}


def true_copy(table, token):
    """Return the copy that is true for a token."""
    if token[0] == "window":
        return plain_copy(table, *token[1:])
    return {row[0][-1]: row for row in plain_window(table, token[1], token[2])[:token[3]]}


def plain_corrections(before, after):
    """Return the corrections that turn one copy into another, in ascending order of ids."""
    corrections = []
    for row_id in sorted({*before, *after}):
        if row_id not in after:
            corrections.append(("drop", row_id))
        elif before.get(row_id) != after[row_id]:
            corrections.append(("put", *after[row_id]))
    return corrections


def plain_marks(low, high, rows, count, back):
    """Return the marks of the new token of a page with these rows."""
    if count == 0:
        return (low, high)
    if back:
        return (("before", rows[-1][0]) if len(rows) == count else START, high)
    return (low, ("after", rows[-1][0]) if len(rows) == count else END)


def plain_page(table, token, count, back=False):
    """Return the debt, the rows and the new token of a page."""
    view, version, low, high = token[1:]
    present = table.present()
    debt = plain_corrections(plain_copy(table, *token[1:]), plain_copy(table, view, present, low, high))
    if back:
        rows = plain_window(table, view, present, START, low)[::-1][:count]
    else:
        rows = plain_window(table, view, present, high, END)[:count]
    return (debt, rows, ("window", view, present, *plain_marks(low, high, rows, count, back)))


def plain_page_result(rows, result):
    """Return the copy to which a page was applied, in the words of the document."""
    debt, paged = result[:2]
    rows = dict(rows)
    for correction in debt:
        if correction[0] == "drop":
            rows.pop(correction[1], None)
        else:
            rows[correction[1][-1]] = correction[1:]
    for row in paged:
        rows[row[0][-1]] = row
    return rows


def random_values(maker):
    return (maker.choice([None, 5, 6, 7, "a"]), maker.choice(["a", "ab", "b"]))


def random_batch(maker, most=6):
    """Return a batch of edits of ids less than most, with few different values."""
    return [
        ("put", maker.randrange(1, most), random_values(maker)) if maker.random() < 0.7
        else ("drop", maker.randrange(1, most))
        for _ in range(maker.randrange(1, 4))
    ]


def grown(seed, many=8, most=6):
    """Return a table with many versions, of rows with few different values."""
    maker = random.Random(seed)
    table = Table(COLUMNS)
    while table.present() < many:
        table.change_rows(random_batch(maker, most))
    return table


def some_marks(table, view):
    """Return marks of a view in its order, at keys of rows and at keys of none."""
    keys = {row[0] for version in table.known_versions()[::3] for row in plain_window(table, view, version)}
    keys.add((*[6] * len(view[1]), 3))
    compared = functools.cmp_to_key(lambda first, second: compare_keys(view, first, second))
    inner = [(kind, key) for key in sorted(keys, key=compared)[::2] for kind in ("before", "after")]
    return [START, *inner, END]
