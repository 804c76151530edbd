"""Copies, the changes that are applied to them, and corrections: points [9] and [14]."""

from steadypages.errors import Mismatch


def copy_of(delivered):
    """Return the copy of the delivered rows in a list; of two rows with the same id the last one counts."""
    return {row[0][-1]: row for row in delivered}


def apply_changes(rows, changes):
    """Return the copy after a change set."""
    changed = {row_id: rows[row_id] for row_id in rows}
    for row_id in sorted(changes):
        before, after = changes[row_id]
        if rows.get(row_id) != before:
            raise Mismatch(row_id)
        set_row(changed, row_id, after)
    return changed


def set_row(rows, row_id, delivered):
    """Give an id of a copy this delivered row, or no row for None."""
    if delivered is None:
        rows.pop(row_id, None)
    else:
        rows[row_id] = delivered


def corrections_of(changes):
    """Return the corrections of a change set, in ascending order of ids."""
    return [correction_to(row_id, changes[row_id][1]) for row_id in sorted(changes)]


def correction_to(row_id, delivered):
    """Return the correction that gives an id this delivered row, or no row for None."""
    if delivered is None:
        return ("drop", row_id)
    key, shown = delivered
    return ("put", key, shown)


def corrected_id(correction):
    """Return the id that a correction is about."""
    if correction[0] == "drop":
        return correction[1]
    return correction[1][-1]


def apply_corrections(rows, corrections):
    """Return the copy after corrections, in the order of their list."""
    corrected = {row_id: rows[row_id] for row_id in rows}
    for correction in corrections:
        delivered = None if correction[0] == "drop" else correction[1:]
        set_row(corrected, corrected_id(correction), delivered)
    return corrected
