"""The errors of the program; each keeps the value that it is about."""


class PageError(ValueError):
    """The base class of all errors of the program."""


class BadColumns(PageError):
    """A value is not columns."""

    def __init__(self, value):
        self.value = value


class BadRow(PageError):
    """A value is not a row, an id or an edit."""

    def __init__(self, value):
        self.value = value


class BadCondition(PageError):
    """A text is not the text of a condition; position tells where."""

    def __init__(self, position):
        self.position = position


class BadMark(PageError):
    """A mark is not in its place."""

    def __init__(self, mark):
        self.mark = mark


class BadToken(PageError):
    """A token is not of the kind that is needed."""

    def __init__(self, token):
        self.token = token


class BadCount(PageError):
    """A value is not a count that is possible here."""

    def __init__(self, count):
        self.count = count


class BadText(PageError):
    """A value is not the text of a token or of a table."""

    def __init__(self, text):
        self.text = text


class BadAnswers(PageError):
    """A list is not the answers of a repair; index is its first wrong item."""

    def __init__(self, index):
        self.index = index


class Mismatch(PageError):
    """Two change sets, or a copy and a change set, do not fit at an id."""

    def __init__(self, row_id):
        self.row_id = row_id


class UnknownVersion(PageError):
    """A version is not known."""

    def __init__(self, version):
        self.version = version


class UnknownName(PageError):
    """A table or a view of this name is not there."""

    def __init__(self, name):
        self.name = name


class NameTaken(PageError):
    """A table or a view of this name is there already."""

    def __init__(self, name):
        self.name = name


class BadCommand(PageError):
    """A value is not a command of the server."""

    def __init__(self, command):
        self.command = command
