"""Checks of copies and of pages: points [15] and [17]."""

from steadypages.changes import changes_between
from steadypages.copies import apply_corrections, copy_of, corrected_id
from steadypages.marks import compare_marks, is_between
from steadypages.pages import END, START, token_rows
from steadypages.views import compare_keys


def audit_copy(table, token, rows):
    """Return the list of (row_id, held, due) for every id at which a copy is not true for a token."""
    wrong = changes_between(rows, copy_of(token_rows(table, token, token[2])))
    return [(row_id, wrong[row_id][0], wrong[row_id][1]) for row_id in wrong]


def check_page(rows, token, result, *, back=False):
    """Return the name of the first rule that a page breaks for a true copy, or None."""
    debt, paged, moved = result
    if not is_moved_token(token, moved, back):
        return "token"
    if not is_debt(rows, token, debt):
        return "debt"
    if not are_page_rows(apply_corrections(rows, debt), token, paged, moved, back):
        return "rows"
    if not is_page_mark(token, paged, moved, back):
        return "mark"
    return None


def is_moved_token(token, moved, back):
    """Return whether a page of a token can have this new token."""
    kind, view, version, low, high = token
    if moved[1] != view or moved[2] < version:
        return False
    if back:
        return moved[4] == high and compare_marks(view, moved[3], low) <= 0
    return moved[3] == low and compare_marks(view, moved[4], high) >= 0


def is_debt(rows, token, debt):
    """Return whether these corrections can be the debt of a token for which a copy is true."""
    ids = [corrected_id(correction) for correction in debt]
    if not all([first < second for first, second in zip(ids, ids[1:])]):
        return False
    return all([is_correction(rows, token, correction) for correction in debt])


def is_correction(rows, token, correction):
    """Return whether a copy that is true for a token can need this correction."""
    row_id = corrected_id(correction)
    if correction[0] == "drop":
        return row_id in rows
    key, shown = correction[1:]
    return is_between(token[1], key, token[3], token[4]) and rows.get(row_id) != (key, shown)


def are_page_rows(rows, token, paged, moved, back):
    """Return whether a page whose debt leads to a copy can have these rows."""
    view = token[1]
    low, high = (moved[3], token[3]) if back else (token[4], moved[4])
    keys = [key for key, shown in paged]
    ascending = keys[::-1] if back else keys
    if not all([compare_keys(view, first, second) < 0 for first, second in zip(ascending, ascending[1:])]):
        return False
    return all([is_between(view, key, low, high) and key[-1] not in rows for key in keys])


def is_page_mark(token, paged, moved, back):
    """Return whether the mark that a page with these rows moves is in its place."""
    if back:
        return is_mark_beside(token[3], paged, moved[3], "before", START)
    return is_mark_beside(token[4], paged, moved[4], "after", END)


def is_mark_beside(mark, paged, moved, side, bound):
    """Return whether a mark has not moved for want of rows, or is the bound or beside the last row."""
    if moved == bound:
        return True
    if len(paged) == 0:
        return moved == mark
    return moved == (side, paged[-1][0])
