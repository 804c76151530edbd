"""What the document promises over the whole program: whatever comes one after the other, copies stay true."""

import random
import unittest

from steadypages.audit import audit_copy, check_page
from steadypages.changes import change_set
from steadypages.copies import apply_changes, apply_corrections
from steadypages.errors import UnknownVersion
from steadypages.files import load_table, table_text
from steadypages.marks import compare_marks
from steadypages.pages import catch_up, open_top, open_window, page
from steadypages.repair import check_answers, repair_copy
from steadypages.shards import ShardedList
from steadypages.tables import Table
from steadypages.texts import parse_token, token_text
from steadypages.tokens import is_token, join_tokens, narrow_token, split_token
from steadypages.views import key_of
from histories import (
    COLUMNS, END, START, VIEWS, in_key_order, plain_page_result, plain_window, random_batch, random_values, true_copy,
)
from samples import check_error

IDS = 12


def random_mark(maker, view, low=START, high=END):
    """Return a mark of a view that is neither before low nor after high."""
    marks = [low, high]
    for _ in range(4):
        key = key_of(view, maker.randrange(1, IDS), random_values(maker))
        marks.append((maker.choice(("before", "after")), key))
    inner = [mark for mark in marks if compare_marks(view, low, mark) <= 0 <= compare_marks(view, high, mark)]
    return maker.choice(inner)


def rows_between(view, rows, low, high):
    """Return the part of a copy between two marks."""
    return {
        row_id: row for row_id, row in rows.items()
        if compare_marks(view, low, ("before", row[0])) <= 0 <= compare_marks(view, high, ("after", row[0]))
    }


class RunTest(unittest.TestCase):
    """A table that is edited, and readers with tokens and copies that are true when they get them.

    truths has the rows of every version that there was, known or not.
    """

    def start(self, seed):
        self.maker = random.Random(seed)
        self.table = Table(COLUMNS)
        self.readers = []
        self.truths = {0: {}}

    def edit(self):
        kind = self.maker.random()
        known = self.table.known_versions()
        if kind < 0.75:
            self.table.change_rows(random_batch(self.maker, IDS))
        elif kind < 0.85:
            self.table.revert_to(self.maker.choice(known))
        elif kind < 0.95:
            self.table.fold_to([version for version in known if self.maker.random() < 0.7])
        else:
            self.table.forget_before(self.maker.choice(known))
        self.truths[self.table.present()] = self.table.rows_at(self.table.present())

    def reload(self):
        """Go on with the table that is loaded from the text of the table."""
        loaded = load_table(table_text(self.table))
        self.assertEqual(loaded, self.table)
        self.table = loaded

    def check_reader(self, token, rows):
        """Check that a copy is true for a token, by the rows that its version had."""
        self.assertTrue(is_token(token, len(COLUMNS)))
        truth = Table(COLUMNS)
        truth.change_rows([("put", row_id, values) for row_id, values in self.truths[token[2]].items()])
        due = true_copy(truth, (*token[:2], truth.present(), *token[3:]))
        self.assertEqual(rows, due)
        if token[2] in self.table.known_versions():
            self.assertEqual(audit_copy(self.table, token, rows), [])
        else:
            check_error(self, UnknownVersion, "version", token[2], audit_copy, self.table, token, rows)

    def add(self, token, rows):
        self.check_reader(token, rows)
        self.readers.append((token, rows))
        # Tokens stay and are used again, but not for ever.
        if len(self.readers) > 30:
            del self.readers[self.maker.randrange(30)]

    def open(self):
        view = self.maker.choice(VIEWS)
        if self.maker.random() < 0.3:
            rows, token = open_top(self.table, view, self.maker.randrange(6))
            self.add(token, {row[0][-1]: row for row in rows})
        else:
            self.add(open_window(self.table, view, mark=random_mark(self.maker, view)), {})

    def reader(self, *kinds):
        """Return a token of one of these kinds and its copy."""
        fitting = [reader for reader in self.readers if reader[0][0] in kinds]
        if not fitting:
            view = self.maker.choice(VIEWS)
            self.add(open_window(self.table, view), {})
            fitting = self.readers[-1:]
        return self.maker.choice(fitting)

    def turn_page(self):
        token, rows = self.reader("window")
        count, back = self.maker.choice((0, 1, 1, 2, 3, 20)), self.maker.random() < 0.5
        if token[2] not in self.table.known_versions():
            check_error(self, UnknownVersion, "version", token[2], page, self.table, token, count, back=back)
            return
        result = page(self.table, token, count, back=back)
        self.assertIsNone(check_page(rows, token, result, back=back))
        new = result[2]
        self.assertEqual(new[2], self.table.present())
        self.add(new, plain_page_result(rows, result))
        # The window alone can be followed by its change set.
        narrow = change_set(self.table, token[1], token[2], new[2], *token[3:])
        self.assertEqual(apply_changes(rows, narrow), apply_corrections(rows, result[0]))

    def catch(self):
        token, rows = self.reader("window", "top")
        if token[2] not in self.table.known_versions():
            check_error(self, UnknownVersion, "version", token[2], catch_up, self.table, token)
            return
        debt, new = catch_up(self.table, token)
        self.assertEqual(new, (*token[:2], self.table.present(), *token[3:]))
        self.add(new, apply_corrections(rows, debt))

    def split(self):
        """Split a token; catch up each part at its own time; then join the parts again."""
        token, rows = self.reader("window")
        mark = random_mark(self.maker, token[1], *token[3:])
        parts = [(part, rows_between(part[1], rows, *part[3:])) for part in split_token(token, mark)]
        self.assertEqual(join_tokens(parts[0][0], parts[1][0]), token)
        self.assertEqual({**parts[0][1], **parts[1][1]}, rows)
        for part in parts:
            self.add(*part)
        for place in (0, 1, 0):
            if parts[place][0][2] not in self.table.known_versions():
                return
            debt, new = catch_up(self.table, parts[place][0])
            parts[place] = (new, apply_corrections(parts[place][1], debt))
            self.add(*parts[place])
            if place == 0 and parts[1][0][2] == token[2]:
                self.edit()
        self.add(join_tokens(parts[0][0], parts[1][0]), {**parts[0][1], **parts[1][1]})

    def narrow(self):
        token, rows = self.reader("window")
        low = random_mark(self.maker, token[1], *token[3:])
        high = random_mark(self.maker, token[1], low, token[4])
        self.add(narrow_token(token, low, high), rows_between(token[1], rows, low, high))

    def repair(self):
        token, rows = self.reader("window")
        fitting = [version for version in self.table.known_versions() if version >= token[2]]
        at = self.maker.choice(fitting)
        repaired, new, answers = repair_copy(self.table, token, rows, at)
        keys = [row[0] for row in in_key_order(token[1], rows.values())]
        stale = check_answers(token[3], token[4], keys, answers)
        self.assertLessEqual(len(answers), len(rows))
        for row_id in rows:
            if row_id not in stale:
                self.assertEqual(repaired[row_id], rows[row_id])
        self.add(new, repaired)

    def send(self):
        """Send a token as its text."""
        token, rows = self.reader("window", "top")
        name, read = parse_token(token_text(token, "v"), {"v": token[1], "w": VIEWS[0]})
        self.assertEqual((name, read), ("v", token))
        self.add(read, rows)

    def run_steps(self, many, *more):
        steps = (self.edit, self.edit, self.edit, self.open, self.turn_page, self.turn_page, self.turn_page, self.catch, self.split,
                 self.narrow, self.repair, self.send, *more)
        for _ in range(many):
            self.maker.choice(steps)()


class TableRunsTest(RunTest):

    def test_long_runs_over_one_table(self):
        for seed in range(30):
            self.start(seed)
            self.run_steps(150)
            self.assertGreater(len(self.readers), 10)

    def test_long_runs_over_tables_that_are_loaded_from_their_text(self):
        for seed in range(30, 50):
            self.start(seed)
            self.run_steps(150, self.reload, self.reload)

    def test_a_list_can_be_read_whatever_is_forgotten(self):
        for seed in range(50, 90):
            self.start(seed)
            view = self.maker.choice(VIEWS)
            token, rows = open_window(self.table, view), {}
            while token[3:] != (START, END):
                for _ in range(self.maker.randrange(3)):
                    self.edit()
                if token[2] not in self.table.known_versions():
                    rows, token, answers = repair_copy(self.table, token, rows, self.maker.choice(
                        [version for version in self.table.known_versions() if version >= token[2]],
                    ))
                result = page(self.table, token, self.maker.randrange(1, 4))
                rows, token = plain_page_result(rows, result), result[2]
                self.check_reader(token, rows)
            due = plain_window(self.table, view, self.table.present())
            self.assertEqual(in_key_order(view, rows.values()), due)


class ShardRunsTest(unittest.TestCase):

    def true_copy(self, shards, token):
        rows = {}
        for place, version in enumerate(token[2]):
            for row in plain_window(shards.shard(place), token[1], version, *token[3:]):
                rows[row[0][-1]] = row
        return rows

    def edit(self, maker, shards, count):
        place = maker.randrange(count)
        table = shards.shard(place)
        kind = maker.random()
        known = table.known_versions()
        if kind < 0.5:
            shards.put_row(maker.randrange(1, 30), random_values(maker))
        elif kind < 0.6:
            shards.drop_row(maker.randrange(1, 30))
        elif kind < 0.8:
            row_ids = [row_id for row_id in range(1, 30) if row_id % count == place]
            table.change_rows([("put", maker.choice(row_ids), random_values(maker)) for _ in range(3)])
        elif kind < 0.9:
            table.revert_to(maker.choice(known))
        else:
            table.fold_to([version for version in known if maker.random() < 0.9])

    def known_part(self, shards, readers):
        """Return the readers whose versions all tables know."""
        return [
            (token, rows) for token, rows in readers
            if all(version in shards.shard(place).known_versions() for place, version in enumerate(token[2]))
        ]

    def test_long_runs_over_shards(self):
        for seed in range(20):
            maker = random.Random(seed)
            count = maker.choice((1, 2, 3, 8))
            shards = ShardedList(COLUMNS, count)
            readers = []
            for _ in range(80):
                self.edit(maker, shards, count)
                readers = self.known_part(shards, readers)[-20:]
                if not readers or maker.random() < 0.2:
                    view = maker.choice(VIEWS)
                    readers.append((shards.open_window(view, mark=random_mark(maker, view)), {}))
                token, rows = maker.choice(readers)
                if maker.random() < 0.2:
                    debt, new = shards.catch_up(token)
                    result = (debt, [], new)
                else:
                    result = shards.page(token, maker.choice((0, 1, 2, 5, 40)), back=maker.random() < 0.5)
                self.assertEqual(result[2][2], shards.present_versions())
                rows = plain_page_result(rows, result)
                self.assertEqual(rows, self.true_copy(shards, result[2]))
                readers.append((result[2], rows))


if __name__ == "__main__":
    unittest.main()
