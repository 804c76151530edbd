"""The server, which executes commands: point [27]."""

from steadypages.condition_text import parse_condition
from steadypages.errors import BadCommand, BadCondition, BadText, NameTaken, UnknownName
from steadypages.files import table_text
from steadypages.pages import catch_up, open_top, open_window, page
from steadypages.tables import Table
from steadypages.texts import parse_token, read_id, read_value, row_text, token_text
from steadypages.tokens import MOST_COUNTED
from steadypages.values import is_columns, is_name
from steadypages.views import is_order, is_shown
from steadypages.words import read_number_to, split_words

# How many words a command has, by its first word.
WORDS = {"drop": 3, "open": 2, "top": 3, "forget": 3, "known": 2, "save": 2}
# How many words a command has at least.
LEAST_WORDS = {"table": 3, "put": 4, "fold": 3}
# How many words a command has if everything behind the other ones counts as the last one.
WORDS_TO_TEXT = {"view": 6, "next": 3, "back": 3, "catch": 2}
GREATEST_COUNT = 10 ** 9 - 1
DONE = "ok"


class Server:
    """Tables and views by name, and the commands about them."""

    def __init__(self):
        self._tables = {}
        # The pairs of a table and a view of it, by the name of the view.
        self._views = {}

    def say(self, command):
        """Execute a command and return a text; any value that is no command raises BadCommand."""
        if not isinstance(command, str):
            raise BadCommand(command)
        try:
            return self._execute(command_words(command))
        except (BadText, BadCondition):
            raise BadCommand(command) from None

    def _execute(self, words):
        """Execute the command of these words; BadText and BadCondition tell that a word is wrong."""
        match words[0]:
            case "table":
                return self._make_table(words)
            case "view":
                return self._make_view(words)
            case "put":
                return self._put_row(words)
            case "drop":
                return self._drop_row(words)
            case "open":
                return self._open_view(words)
            case "top":
                return self._open_top(words)
            case "next":
                return self._turn_page(words, False)
            case "back":
                return self._turn_page(words, True)
            case "catch":
                return self._catch_up(words)
            case "fold":
                return self._fold(words)
            case "forget":
                return self._forget(words)
            case "known":
                return self._known(words)
            case _:
                return self._save(words)

    def _table(self, name):
        """Return the table that has this name."""
        if name not in self._tables:
            raise UnknownName(name)
        return self._tables[name]

    def _view(self, name):
        """Return the pair of the table and the view that have this name."""
        if name not in self._views:
            raise UnknownName(name)
        return self._views[name]

    def _make_table(self, words):
        check_new_name(words[1], self._tables)
        columns = tuple(words[2:])
        if not is_columns(columns):
            raise BadText(words[2])
        self._tables[words[1]] = Table(columns)
        return DONE

    def _make_view(self, words):
        check_new_name(words[1], self._views)
        table = self._table(words[2])
        columns = table.column_names()
        order = read_order(words[3], columns)
        shown = read_shown(words[4], columns)
        condition = parse_condition(words[5], columns)
        self._views[words[1]] = (table, (condition, order, shown))
        return DONE

    def _put_row(self, words):
        table = self._table(words[1])
        row_id = read_id(words[2])
        values = tuple([read_value(word) for word in words[3:]])
        if len(values) != len(table.column_names()):
            raise BadText(words[3])
        return str(table.put_row(row_id, values))

    def _drop_row(self, words):
        table = self._table(words[1])
        return str(table.drop_row(read_id(words[2])))

    def _open_view(self, words):
        table, view = self._view(words[1])
        return token_text(open_window(table, view), words[1])

    def _open_top(self, words):
        table, view = self._view(words[1])
        rows, token = open_top(table, view, read_number_to(words[2], MOST_COUNTED))
        return page_text([], rows, token, words[1])

    def _turn_page(self, words, back):
        count = read_number_to(words[1], GREATEST_COUNT)
        name, token = self._read_token(words[2])
        if token[0] != "window":
            raise BadText(words[2])
        table, _ = self._view(name)
        debt, rows, token = page(table, token, count, back=back)
        return page_text(debt, rows, token, name)

    def _catch_up(self, words):
        name, token = self._read_token(words[1])
        table, _ = self._view(name)
        debt, token = catch_up(table, token)
        return page_text(debt, [], token, name)

    def _read_token(self, text):
        return parse_token(text, {name: self._views[name][1] for name in self._views})

    def _fold(self, words):
        table = self._table(words[1])
        table.fold_to([read_number_to(word, GREATEST_COUNT) for word in words[2:]])
        return DONE

    def _forget(self, words):
        table = self._table(words[1])
        table.forget_before(read_number_to(words[2], GREATEST_COUNT))
        return DONE

    def _known(self, words):
        return " ".join([str(version) for version in self._table(words[1]).known_versions()])

    def _save(self, words):
        return table_text(self._table(words[1]))


def command_words(command):
    """Return the words of a command; BadText if its first word or their number is wrong."""
    first = split_words(command, 2)[0]
    words = split_words(command, WORDS_TO_TEXT.get(first))
    if first in LEAST_WORDS:
        fits = len(words) >= LEAST_WORDS[first]
    elif first in WORDS:
        fits = len(words) == WORDS[first]
    else:
        fits = len(words) == WORDS_TO_TEXT.get(first)
    if not fits:
        raise BadText(command)
    return words


def check_new_name(word, taken):
    """Raise NameTaken for a name that is there, BadText for a word that is no name."""
    if word in taken:
        raise NameTaken(word)
    if not is_name(word):
        raise BadText(word)


def read_order(word, columns):
    """Return the order of a view that a word stands for."""
    order = tuple([read_ordered(part, columns) for part in listed_parts(word)])
    if not is_order(order, len(columns)):
        raise BadText(word)
    return order


def read_ordered(word, columns):
    """Return the pair of a column and whether it is descending that a word stands for."""
    if word.startswith("-"):
        return (read_column(word[1:], columns), True)
    return (read_column(word, columns), False)


def read_shown(word, columns):
    """Return the shown columns that a word stands for."""
    shown = tuple([read_column(part, columns) for part in listed_parts(word)])
    if not is_shown(shown, len(columns)):
        raise BadText(word)
    return shown


def listed_parts(word):
    """Return the list of the parts that commas separate; - stands for none."""
    if word == "-":
        return []
    return word.split(",")


def read_column(word, columns):
    """Return the index of the column with this name."""
    if word not in columns:
        raise BadText(word)
    return columns.index(word)


def page_text(debt, rows, token, name):
    """Return the lines about a debt, rows and a token of the view with this name."""
    lines = [correction_text(correction) for correction in debt]
    lines.extend([f"row {row_text(row)}" for row in rows])
    lines.append(f"token {token_text(token, name)}")
    return "\n".join(lines)


def correction_text(correction):
    """Return the line about a correction."""
    if correction[0] == "drop":
        return f"drop {correction[1]}"
    return f"put {row_text(correction[1:])}"
