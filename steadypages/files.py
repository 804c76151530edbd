"""The text of a table: point [26]."""

from steadypages.errors import BadText
from steadypages.tables import Table, take_step
from steadypages.texts import read_id, read_value, values_text
from steadypages.values import is_columns
from steadypages.words import read_number, read_number_to, split_words

GREATEST_VERSION = 10 ** 9


def table_text(table):
    """Return the text of a table."""
    names = " ".join(table.column_names())
    known = table.known_versions()
    versions = " ".join([str(version) for version in known])
    lines = [f"table {names}", f"known {versions}"]
    steps = table.steps()
    for version in known:
        start = "row" if version == known[0] else f"edit {version}"
        lines.extend(step_lines(start, steps[version]))
    return "\n".join(lines)


def step_lines(start, step):
    """Return the lines, with this start, about the ids of a step."""
    return [f"{start} {row_id} {state_text(step[row_id])}" for row_id in sorted(step)]


def state_text(state):
    """Return the text of the state of an id."""
    if state is None:
        return "gone"
    changed, values = state
    return f"{changed} {values_text(values)}"


def load_table(text):
    """Return the table of a text; any other value raises BadText."""
    if not isinstance(text, str):
        raise BadText(text)
    try:
        return read_table(text.split("\n"))
    except BadText:
        raise BadText(text) from None


def read_table(lines):
    """Return the table whose text has these lines; BadText may keep a part of them."""
    if len(lines) < 2:
        raise BadText(lines)
    columns = read_columns(lines[0])
    table = Table(columns)
    table.take_steps(read_steps(lines[2:], read_known(lines[1]), len(columns)))
    return table


def read_columns(line):
    """Return the columns that the first line names."""
    words = split_words(line)
    columns = tuple(words[1:])
    if words[0] != "table" or not is_columns(columns):
        raise BadText(line)
    return columns


def read_known(line):
    """Return the list of the known versions that the second line names."""
    words = split_words(line)
    known = [read_number_to(word, GREATEST_VERSION) for word in words[1:]]
    ascending = all([earlier < later for earlier, later in zip(known, known[1:])])
    if words[0] != "known" or len(known) == 0 or not ascending:
        raise BadText(line)
    return known


def read_steps(lines, known, width):
    """Return the dict from known versions to the steps that the other lines tell."""
    steps = {version: {} for version in known}
    # The change version of a row is greater than the known version before it.
    earlier = {after: before for before, after in zip([0, *known], known)}
    states = {}
    last = (0, 0)
    for line in lines:
        version, row_id, state = read_line(split_words(line), known[0], width)
        if version not in steps or (version, row_id) <= last:
            raise BadText(line)
        if not can_follow(state, states.get(row_id), earlier[version], version):
            raise BadText(line)
        last = (version, row_id)
        steps[version][row_id] = state
        take_step(states, {row_id: state})
    return steps


def can_follow(state, former, earlier, version):
    """Return whether an id can get a state at a version, after the former one at the known version before."""
    if state is None:
        return former is not None
    return earlier < state[0] <= version


def read_line(words, first, width):
    """Return the version, the id and the state that a line about an id tells."""
    if words[0] == "row":
        row_id, state = read_entry(words[1:], width)
        return (first, row_id, state)
    if words[0] != "edit" or len(words) < 2:
        raise BadText(" ".join(words))
    version = read_number(words[1])
    if version == first:
        raise BadText(words[1])
    if words[3:] == ["gone"]:
        return (version, read_id(words[2]), None)
    row_id, state = read_entry(words[2:], width)
    return (version, row_id, state)


def read_entry(words, width):
    """Return the id and the state, with a row, that words stand for."""
    if len(words) != width + 2:
        raise BadText(" ".join(words))
    values = [read_value(word) for word in words[2:]]
    return (read_id(words[0]), (read_number(words[1]), tuple(values)))
