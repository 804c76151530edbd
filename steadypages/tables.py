"""Tables, their versions and their log: points [10] and [11]."""

from steadypages.errors import BadColumns, BadRow, UnknownVersion
from steadypages.values import is_columns, is_integer, is_row, is_row_id


class Table:
    """Rows that are changed by batches, and the rows of the versions that are known.

    The state of an id is a tuple of its change version and its values, or None
    if it has no row. A step maps to its new state every id whose state at a
    known version differs from that at the known version before it. The step of
    the first known version starts from a table without rows. So equal tables
    have equal steps, whichever edits and versions led to them.
    """

    def __init__(self, columns):
        if not is_columns(columns):
            raise BadColumns(columns)
        self._columns = columns
        self._present = 0
        self._steps = {0: {}}
        self._states = {}

    def __eq__(self, other):
        if not isinstance(other, Table):
            return False
        return self._columns == other._columns and self._steps == other._steps

    def __len__(self):
        return len(self._states)

    def column_names(self):
        """Return the columns."""
        # The tuple that is returned must be new; tuple(..) of a tuple is that tuple.
        return tuple(list(self._columns))

    def put_row(self, row_id, values):
        """Give an id these values; return the present version after it."""
        row = (row_id, values)
        if not is_row(self._columns, row):
            raise BadRow(row)
        return self._change({row_id: values})

    def drop_row(self, row_id):
        """Remove an id; return the present version after it."""
        if not is_row_id(row_id):
            raise BadRow(row_id)
        return self._change({row_id: None})

    def change_rows(self, edits):
        """Do a batch of edits as a whole; return the present version after it."""
        for edit in edits:
            if not is_edit(self._columns, edit):
                raise BadRow(edit)
        rows = {}
        for edit in edits:
            rows[edit[1]] = edit[2] if edit[0] == "put" else None
        return self._change(rows)

    def revert_to(self, version):
        """Make the rows those of a known version; return the present version after it."""
        earlier = self.rows_at(version)
        rows = {row_id: None for row_id in self._states}
        rows.update(earlier)
        return self._change(rows)

    def _change(self, rows):
        """Give ids values, or no row for None; return the present version after it."""
        version = self._present + 1
        step = {}
        for row_id in rows:
            values = rows[row_id]
            if values != values_of(self._states.get(row_id)):
                step[row_id] = None if values is None else (version, values)
        if len(step) > 0:
            take_step(self._states, step)
            self._steps[version] = step
            self._present = version
        return self._present

    def present(self):
        """Return the present version."""
        return self._present

    def known_versions(self):
        """Return the list of the known versions, ascending."""
        return sorted(self._steps)

    def rows_at(self, version):
        """Return the rows of a known version, a dict from ids to values."""
        states = self._states_at(version)
        return {row_id: states[row_id][1] for row_id in sorted(states)}

    def changes_at(self, version):
        """Return the dict from the ids of a known version to their change versions."""
        states = self._states_at(version)
        return {row_id: states[row_id][0] for row_id in sorted(states)}

    def _states_at(self, version):
        """Return the dict from the ids of a known version to their states."""
        self._check_known(version)
        states = {}
        for known, step in self._steps.items():
            if known <= version:
                take_step(states, step)
        return states

    def _check_known(self, version):
        if not is_integer(version) or version not in self._steps:
            raise UnknownVersion(version)

    def forget_before(self, version):
        """Make the versions before a known version unknown."""
        self._check_known(version)
        self.fold_to([known for known in self._steps if known >= version])

    def fold_to(self, versions):
        """Make all versions unknown but these known ones and the present one."""
        for version in versions:
            self._check_known(version)
        self._steps = folded_steps(self._steps, [*versions, self._present])

    def steps(self):
        """Return the dict from the known versions, ascending, to their steps."""
        return {version: {row_id: step[row_id] for row_id in step} for version, step in self._steps.items()}

    def take_steps(self, steps):
        """Become the table with these steps, whose versions ascend."""
        self._steps = {version: {row_id: step[row_id] for row_id in step} for version, step in steps.items()}
        self._states = {}
        for step in self._steps.values():
            take_step(self._states, step)
        self._present = max(self._steps)

    def log_entries(self):
        """Return the list of (version, id, before, after), ascending."""
        first = min(self._steps)
        entries = []
        states = {}
        for version, step in self._steps.items():
            if version != first:
                entries.extend(step_entries(version, states, step))
            take_step(states, step)
        return entries


def is_edit(columns, value):
    """Return whether any value is an edit of a table with these columns."""
    if not isinstance(value, tuple) or len(value) == 0:
        return False
    if value[0] == "put":
        return is_row(columns, value[1:])
    return value[0] == "drop" and len(value) == 2 and is_row_id(value[1])


def values_of(state):
    """Return the values of a state, or None if there is no row."""
    if state is None:
        return None
    return state[1]


def take_step(states, step):
    """Change the states at a known version to those at the next one."""
    for row_id in step:
        if step[row_id] is None:
            states.pop(row_id, None)
        else:
            states[row_id] = step[row_id]


def step_entries(version, states, step):
    """Return the entries of the log for the step from these states to a version."""
    entries = []
    for row_id in sorted(step):
        before = values_of(states.get(row_id))
        after = values_of(step[row_id])
        # An id whose values are the same again has a new change version only.
        if before != after:
            entries.append((version, row_id, before, after))
    return entries


def folded_steps(steps, versions):
    """Return the steps between the versions that stay known."""
    staying = set(versions)
    folded = {}
    states = {}
    gathered = {}
    for version, step in steps.items():
        gathered.update(step)
        if version in staying:
            folded[version] = {
                row_id: gathered[row_id] for row_id in gathered if gathered[row_id] != states.get(row_id)
            }
            take_step(states, folded[version])
            gathered = {}
    return folded
