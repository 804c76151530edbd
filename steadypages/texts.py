"""The texts of values, marks, delivered rows and tokens: points [24] and [25]."""

from steadypages.errors import BadText
from steadypages.tokens import MOST_COUNTED, are_window_marks
from steadypages.values import GREATEST_ID, is_value
from steadypages.words import read_number, read_number_to, split_words

# The weight of a character in a check number is its place here, from 1.
WEIGHED_SIGNS = "0123456789abcdefghijklmnopqrstuvwxyz"
OTHER_WEIGHT = 37
CHECK_MODULUS = 997


def value_text(value):
    """Return the text of a value."""
    if value is None:
        return "none"
    if isinstance(value, str):
        inner = value.replace("\\", "\\\\").replace('"', '\\"')
        return f'"{inner}"'
    return str(value)


def values_text(values):
    """Return the texts of several values, separated by single spaces."""
    return " ".join([value_text(value) for value in values])


def mark_text(mark):
    """Return the text of a mark."""
    if len(mark) == 1:
        return mark[0]
    return f"{mark[0]} {values_text(mark[1])}"


def row_text(delivered):
    """Return the text of a delivered row."""
    key, shown = delivered
    if len(shown) == 0:
        return f"{values_text(key)} :"
    return f"{values_text(key)} : {values_text(shown)}"


def token_text(token, name):
    """Return the text of a token of the view with this name."""
    if token[0] == "top":
        text = f"t {token[2]} {name} {token[3]}"
    else:
        text = f"w {token[2]} {name} {mark_text(token[3])} / {mark_text(token[4])}"
    return f"{text} {check_number(text)}"


def check_number(text):
    """Return the check number that belongs to a text."""
    return sum([place * weight_of(sign) for place, sign in enumerate(text, start=1)]) % CHECK_MODULUS


def weight_of(sign):
    """Return the weight of a character in a check number."""
    if sign in WEIGHED_SIGNS:
        return WEIGHED_SIGNS.index(sign) + 1
    return OTHER_WEIGHT


def parse_token(text, views):
    """Return the tuple of the name and the token of a text; any other value raises BadText."""
    if not isinstance(text, str):
        raise BadText(text)
    try:
        return read_token(text, views)
    except BadText:
        raise BadText(text) from None


def read_token(text, views):
    """Return the tuple of the name and the token of a text; BadText may keep a part of it."""
    body, _, check = text.rpartition(" ")
    words = split_words(body)
    if check != str(check_number(body)) or len(words) < 3 or words[2] not in views:
        raise BadText(text)
    name = words[2]
    version = read_number(words[1])
    if words[0] == "t" and len(words) == 4:
        return (name, ("top", views[name], version, read_number_to(words[3], MOST_COUNTED)))
    if words[0] == "w":
        low, high = read_window_marks(words[3:], views[name])
        return (name, ("window", views[name], version, low, high))
    raise BadText(text)


def read_window_marks(words, view):
    """Return the two marks that stand before and behind a slash."""
    if "/" not in words:
        raise BadText(" ".join(words))
    slash = words.index("/")
    low = read_mark(words[:slash])
    high = read_mark(words[slash + 1:])
    if not are_window_marks(view, low, high):
        raise BadText(" ".join(words))
    return (low, high)


def read_mark(words):
    """Return the tuple that words stand for, which is a mark if its kind and its key are those of one."""
    if len(words) < 2:
        return tuple(words)
    values = [read_value(word) for word in words[1:-1]]
    return (words[0], (*values, read_id(words[-1])))


def read_id(word):
    """Return the id of a row that a word is the text of."""
    row_id = read_number_to(word, GREATEST_ID)
    if row_id == 0:
        raise BadText(word)
    return row_id


def read_value(word):
    """Return the value that a word is the text of."""
    value = likely_value(word)
    if not is_value(value) or value_text(value) != word:
        raise BadText(word)
    return value


def likely_value(word):
    """Return the only value that a word can be the text of, if it is the text of one."""
    if word == "none":
        return None
    if word.startswith('"'):
        # In this order: of the backslashes in front of a quote, the last one belongs to it.
        return word[1:-1].replace('\\"', '"').replace("\\\\", "\\")
    if word.startswith("-"):
        return -read_number(word[1:])
    return read_number(word)
