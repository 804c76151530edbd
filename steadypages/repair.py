"""The repair of copies by counts of unchanged rows: points [20], [21] and [22]."""

from steadypages.copies import copy_of
from steadypages.counting import changed_rows
from steadypages.errors import BadAnswers, BadCount
from steadypages.listing import listing_of
from steadypages.tokens import check_window
from steadypages.values import is_integer
from steadypages.views import key_place


class Repair:
    """The reader's side of a repair: which counts to ask for, and what they tell.

    A range is a tuple (low, first, past, count): its low mark, the places among
    the keys where its copy rows begin and end, and the count of its unchanged
    rows.
    """

    def __init__(self, low, high, keys):
        self._keys = list(keys)
        self._answers = []
        self._stale = []
        # The ranges that are not finished; the last one is treated first. While
        # there is a question, it is the range whose lower half is asked about.
        self._waiting = []
        # What is asked about: (low, high, first, past), or None.
        self._asked = (low, high, 0, len(self._keys)) if len(self._keys) > 0 else None

    def question(self):
        """Return the next range (low, high) whose count is asked, or None if the repair is finished."""
        if self._asked is None:
            return None
        return self._asked[:2]

    def takes(self, count):
        """Return whether any value is a possible count of the range that is asked about."""
        if self._asked is None or not is_integer(count):
            return False
        low, high, first, past = self._asked
        if not 0 <= count <= past - first:
            return False
        if len(self._waiting) == 0:
            return True
        whole_low, whole_first, whole_past, whole_count = self._waiting[-1]
        return 0 <= whole_count - count <= whole_past - past

    def answer(self, count):
        """Take the count of the range that is asked about."""
        if not self.takes(count):
            raise BadCount(count)
        low, high, first, past = self._asked
        self._answers.append((low, high, count))
        if len(self._waiting) > 0:
            whole_low, whole_first, whole_past, whole_count = self._waiting.pop()
            self._waiting.append((high, past, whole_past, whole_count - count))
        self._waiting.append((low, first, past, count))
        self._asked = self._next_asked()

    def _next_asked(self):
        """Finish the ranges that can be finished; return what is asked about next, or None."""
        while len(self._waiting) > 0:
            low, first, past, count = self._waiting[-1]
            if 0 < count < past - first:
                middle = first + (past - first + 1) // 2
                return (low, ("after", self._keys[middle - 1]), first, middle)
            if count == 0:
                self._stale.extend([key[-1] for key in self._keys[first:past]])
            self._waiting.pop()
        return None

    def stale_ids(self):
        """Return the list of the stale ids that are known so far, ascending."""
        return sorted(self._stale)

    def answers(self):
        """Return the list of (low, high, count) so far."""
        return list(self._answers)


def check_answers(low, high, keys, answers):
    """Return the stale ids that the answers of a finished repair certify."""
    repair = Repair(low, high, keys)
    for index, item in enumerate(answers):
        if not is_answer(repair, item):
            raise BadAnswers(index)
        repair.answer(item[2])
    if repair.question() is not None:
        raise BadAnswers(len(answers))
    return repair.stale_ids()


def is_answer(repair, value):
    """Return whether any value is an answer to the question of a repair."""
    if not isinstance(value, tuple) or len(value) != 3 or not repair.takes(value[2]):
        return False
    return is_same(value[:2], repair.question())


def is_same(first, second):
    """Return whether two values are equal, where no bool in a tuple passes for an integer."""
    if isinstance(first, tuple) and isinstance(second, tuple):
        return len(first) == len(second) and all([is_same(one, other) for one, other in zip(first, second)])
    return isinstance(first, bool) == isinstance(second, bool) and first == second


def repair_copy(table, token, rows, at):
    """Return the tuple of the repaired copy, its token and the answers, by the counts at a known version."""
    check_window(token)
    kind, view, version, low, high = token
    listing = listing_of(table, view, at)
    keys = sorted([rows[row_id][0] for row_id in rows], key=lambda key: key_place(view, key))
    repair = Repair(low, high, keys)
    while repair.question() is not None:
        first, last = repair.question()
        repair.answer(listing.unchanged_between(first, last, version))
    stale = set(repair.stale_ids())
    fresh = {row_id: rows[row_id] for row_id in rows if row_id not in stale}
    changed = copy_of(changed_rows(table, view, version, at, low, high))
    return ({**fresh, **changed}, (kind, view, at, low, high), repair.answers())
