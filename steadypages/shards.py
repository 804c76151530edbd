"""Lists that are spread over several tables: point [23]."""

from steadypages.copies import corrected_id
from steadypages.pages import check_count, debt_of, moved_marks, rows_beyond
from steadypages.tables import Table
from steadypages.values import is_row_id
from steadypages.views import key_place


class ShardedList:
    """Several tables with the same columns; the id of a row tells its table."""

    def __init__(self, columns, count):
        self._tables = [Table(columns) for _ in range(count)]

    def put_row(self, row_id, values):
        """Give an id these values; return the tuple of the present versions after it."""
        self._table_of(row_id).put_row(row_id, values)
        return self.present_versions()

    def drop_row(self, row_id):
        """Remove an id; return the tuple of the present versions after it."""
        self._table_of(row_id).drop_row(row_id)
        return self.present_versions()

    def _table_of(self, row_id):
        """Return the table of an id, or any one for a value that is none: each raises its error."""
        place = row_id % len(self._tables) if is_row_id(row_id) else 0
        return self._tables[place]

    def present_versions(self):
        """Return the tuple of the present versions of all tables."""
        return tuple([table.present() for table in self._tables])

    def shard(self, place):
        """Return the table at a place, the table itself."""
        return self._tables[place]

    def open_window(self, view, *, mark=("start",)):
        """Return the shard token of the present versions whose marks are both this mark."""
        return ("shards", view, self.present_versions(), mark, mark)

    def page(self, token, count, *, back=False):
        """Return the tuple of the debt, the rows and the new token of a page of a shard token."""
        check_count(count)
        debt = self._debt(token)
        rows = self._rows_beyond(token, count, back)
        low, high = moved_marks(token, rows, count, back)
        return (debt, rows, ("shards", token[1], self.present_versions(), low, high))

    def catch_up(self, token):
        """Return the tuple of the debt of a shard token and the same token with the present versions."""
        kind, view, versions, low, high = token
        return (self._debt(token), (kind, view, self.present_versions(), low, high))

    def _debt(self, token):
        """Return the debt of a shard token: those of its parts, which have no ids in common."""
        corrections = []
        for table, part in zip(self._tables, part_tokens(token)):
            corrections.extend(debt_of(table, part))
        return sorted(corrections, key=corrected_id)

    def _rows_beyond(self, token, count, back):
        """Return the first count rows of all tables behind a token, or before it, from its mark on."""
        # No table can have more than count of them.
        rows = [row for table in self._tables for row in rows_beyond(table, token, count, back)]
        ascending = sorted(rows, key=lambda row: key_place(token[1], row[0]))
        nearest = ascending[::-1] if back else ascending
        return nearest[:count]


def part_tokens(token):
    """Return the window tokens of the tables that a shard token stands for."""
    kind, view, versions, low, high = token
    return [("window", view, version, low, high) for version in versions]
