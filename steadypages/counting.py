"""Rows that are unchanged since a version: point [19]."""

from steadypages.changes import window_rows
from steadypages.listing import listing_of


def unchanged_count(table, view, since, at, low, high):
    """Return the number of rows of the window at a known version that are unchanged since a version."""
    return listing_of(table, view, at).unchanged_between(low, high, since)


def changed_rows(table, view, since, at, low, high):
    """Return the list of the rows of the window at a known version that are not unchanged since a version."""
    changes = table.changes_at(at)
    return [row for row in window_rows(table, view, at, low, high) if changes[row[0][-1]] > since]
