"""Words that are separated by single spaces, and the numbers among them."""

from steadypages.errors import BadText

DIGITS = "0123456789"


def split_words(text, most=None):
    """Return the words of a text; if a most is given, the last of so many is everything that remains.

    A space between double quotes does not separate words.
    """
    words = []
    start = 0
    end = word_end(text, start)
    while end < len(text) and (most is None or len(words) + 1 < most):
        words.append(text[start:end])
        start = end + 1
        end = word_end(text, start)
    words.append(text[start:])
    return words


def word_end(text, start):
    """Return the index of the space behind the word that starts here, or the length of the text."""
    end = start
    while end < len(text) and text[end] != " ":
        end = quotes_end(text, end) if text[end] == '"' else end + 1
    return end


def quotes_end(text, start):
    """Return the index behind the string whose first quote is here, or behind this quote if it has no end."""
    end = start + 1
    while end < len(text) and text[end] != '"':
        # The character behind a backslash belongs to it, even if it is a quote.
        end += 2 if text[end] == "\\" else 1
    return end + 1 if end < len(text) else start + 1


def read_number(word):
    """Return the number that a word of decimal digits without leading zeros stands for."""
    if word == "" or not all([sign in DIGITS for sign in word]):
        raise BadText(word)
    if word.startswith("0") and word != "0":
        raise BadText(word)
    # Python's int does not take any number of digits.
    number = 0
    for sign in word:
        number = number * 10 + DIGITS.index(sign)
    return number


def read_number_to(word, most):
    """Return the number that a word stands for, if it is not greater than most."""
    number = read_number(word)
    if number > most:
        raise BadText(word)
    return number
