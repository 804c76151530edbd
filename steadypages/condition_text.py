"""The text form of conditions: point [5]."""

from steadypages.conditions import MOST_CHOICES, is_condition
from steadypages.errors import BadCondition
from steadypages.values import is_value
from steadypages.words import DIGITS

LONGEST_TEXT = 200
MOST_NESTED = 20
LETTERS = "abcdefghijklmnopqrstuvwxyz"
SINGLE_SIGNS = "=<(),"
KINDS_BY_SIGN = {"=": "equal", "<": "less", "starts": "starts", "in": "one_of"}
SIGNS_BY_KIND = {"equal": "=", "less": "<", "starts": "starts", "one_of": "in"}
# Which parts of a condition of a kind need parentheses, by the kind of the part.
WRAPPED_AFTER_NOT = ("and", "or")
WRAPPED_LEFT = {"and": ("or",), "or": ()}
WRAPPED_RIGHT = {"and": ("and", "or"), "or": ("or",)}


def parse_condition(text, columns):
    """Return the condition of a text; any other value raises BadCondition."""
    if not isinstance(text, str):
        raise BadCondition(0)
    if len(text) > LONGEST_TEXT:
        raise BadCondition(LONGEST_TEXT)
    reader = ConditionReader(text, columns)
    condition = reader.read_text()
    wrong = reader.first_wrong()
    if wrong is not None:
        raise BadCondition(wrong)
    # Whatever else could be wrong has been found by now: this asks for the depth.
    if not is_condition(condition, len(columns)):
        raise BadCondition(0)
    return condition


class ConditionReader:
    """Reads the tokens of a text from left to right, by the grammar."""

    def __init__(self, text, columns):
        self._text = text
        self._columns = columns
        self._nested = 0
        self._wrong = None
        # The present token and its index; behind the last token it is the
        # empty string, at the end of the text.
        self._token = ""
        self._start = 0
        self._move_to(0)

    def first_wrong(self):
        """Return the index of the first token so far that the grammar takes, but no condition, or None."""
        return self._wrong

    def read_text(self):
        """Return the condition that the whole text is."""
        condition = self._read_condition()
        self._expect(self._token == "")
        return condition

    def _expect(self, fits):
        if not fits:
            raise BadCondition(self._start)

    def _move_to(self, start):
        """Make the first token from an index on the present one."""
        while start < len(self._text) and self._text[start] == " ":
            start += 1
        end = token_end(self._text, start)
        self._start = start
        self._token = self._text[start:end]
        self._expect(end > start or start == len(self._text))

    def _advance(self):
        """Go behind the present token and return it."""
        token = self._token
        self._move_to(self._start + len(token))
        return token

    def _note_wrong(self):
        """Note the present token; it counts only if the text satisfies the grammar."""
        if self._wrong is None:
            self._wrong = self._start

    def _read_condition(self):
        condition = self._read_both()
        while self._token == "or":
            self._advance()
            condition = ("or", condition, self._read_both())
        return condition

    def _read_both(self):
        condition = self._read_part()
        while self._token == "and":
            self._advance()
            condition = ("and", condition, self._read_part())
        return condition

    def _read_part(self):
        if self._token == "not":
            self._advance()
            return ("not", self._read_part())
        if self._token == "(":
            self._enter()
            condition = self._read_condition()
            self._leave()
            return condition
        if self._token == "all":
            self._advance()
            return ("all",)
        return self._read_test()

    def _enter(self):
        self._expect(self._token == "(" and self._nested < MOST_NESTED)
        self._nested += 1
        self._advance()

    def _leave(self):
        self._expect(self._token == ")")
        self._nested -= 1
        self._advance()

    def _read_test(self):
        self._expect(self._token in self._columns)
        column = self._columns.index(self._advance())
        self._expect(self._token in KINDS_BY_SIGN)
        kind = KINDS_BY_SIGN[self._advance()]
        if kind == "one_of":
            return (kind, column, self._read_choice())
        if kind == "starts":
            return (kind, column, self._read_start())
        return (kind, column, self._read_value())

    def _read_choice(self):
        self._enter()
        values = [self._read_value()]
        while self._token == ",":
            self._advance()
            if len(values) == MOST_CHOICES:
                self._note_wrong()
            values.append(self._read_value())
        self._leave()
        return tuple(values)

    def _read_start(self):
        self._expect(is_string_token(self._token))
        if self._token == '""':
            self._note_wrong()
        return self._read_value()

    def _read_value(self):
        token = self._token
        self._expect(token == "none" or is_string_token(token) or is_number_token(token))
        value = value_of(token)
        # Only a number with leading zeros or -0 is written in another way.
        if not is_value(value) or (is_number_token(token) and str(value) != token):
            self._note_wrong()
        self._advance()
        return value


def token_end(text, start):
    """Return the index behind the longest token that starts here, or start if there is none."""
    sign = text[start:start + 1]
    if sign == '"':
        return string_end(text, start)
    if sign == "-":
        end = run_end(text, start + 1, DIGITS)
        return end if end > start + 1 else start
    if sign != "" and sign in SINGLE_SIGNS:
        return start + 1
    return max(run_end(text, start, LETTERS), run_end(text, start, DIGITS))


def run_end(text, start, signs):
    """Return the index of the first character from start on that is none of the signs."""
    end = start
    while end < len(text) and text[end] in signs:
        end += 1
    return end


def string_end(text, start):
    """Return the index behind the string whose first quote is here, or start if it has no end."""
    end = text.find('"', start + 1)
    if end < 0 or not all([" " <= sign <= "~" for sign in text[start:end]]):
        return start
    return end + 1


def is_string_token(token):
    """Return whether a token, or the empty string behind the last one, is a string."""
    return token.startswith('"')


def is_number_token(token):
    """Return whether a token, or the empty string behind the last one, is a number."""
    return token != "" and token[-1] in DIGITS


def value_of(token):
    """Return what a token that stands for a value means."""
    if token == "none":
        return None
    if is_string_token(token):
        return token[1:-1]
    return int(token)


def print_condition(condition, columns):
    """Return the text of a condition, with as few parentheses as possible."""
    kind = condition[0]
    if kind == "all":
        return "all"
    if kind == "not":
        return "not " + part_text(condition[1], columns, WRAPPED_AFTER_NOT)
    if kind in ("and", "or"):
        left = part_text(condition[1], columns, WRAPPED_LEFT[kind])
        right = part_text(condition[2], columns, WRAPPED_RIGHT[kind])
        return f"{left} {kind} {right}"
    return f"{columns[condition[1]]} {SIGNS_BY_KIND[kind]} {operand_text(kind, condition[2])}"


def part_text(condition, columns, wrapped):
    """Return the text of a part of a condition, in parentheses if its kind is wrapped."""
    text = print_condition(condition, columns)
    if condition[0] in wrapped:
        return f"({text})"
    return text


def operand_text(kind, operand):
    """Return the text of what a column is tested against by a test of this kind."""
    if kind == "one_of":
        inner = ", ".join([constant_text(value) for value in operand])
        return f"({inner})"
    return constant_text(operand)


def constant_text(value):
    """Return the text of a value in a condition."""
    if value is None:
        return "none"
    if isinstance(value, str):
        return f'"{value}"'
    return str(value)
