import itertools
import random
import unittest

from steadypages import shards as sharding
from steadypages.copies import apply_corrections
from steadypages.errors import BadCount, BadRow, UnknownVersion
from steadypages.pages import catch_up, open_window, page
from steadypages.shards import ShardedList
from steadypages.tables import Table
from histories import (
    COLUMNS, END, START, VIEW, VIEWS, in_key_order, plain_copy, plain_corrections, plain_marks, plain_page_result,
    plain_window, random_values, some_marks,
)
from samples import any_values, check_error


def sharded(count, *rows):
    """Return a sharded list of one column with rows (id, value)."""
    shards = ShardedList(("size",), count)
    for row_id, value in rows:
        shards.put_row(row_id, (value,))
    return shards


def all_tables(shards):
    return [shards.shard(place) for place in range(len(shards.present_versions()))]


def union_rows(shards, view, versions, low=START, high=END):
    rows = []
    for table, version in zip(all_tables(shards), versions):
        rows += plain_window(table, view, version, low, high)
    return in_key_order(view, rows)


def union_copy(shards, token):
    """Return the copy that is true for a shard token."""
    return {row[0][-1]: row for row in union_rows(shards, *token[1:])}


def plain_shard_page(shards, token, count, back=False):
    """Return the debt, the rows and the new token of a page of a shard token."""
    view, versions, low, high = token[1:]
    present = shards.present_versions()
    debt = plain_corrections(union_copy(shards, token), union_copy(shards, ("shards", view, present, low, high)))
    if back:
        rows = union_rows(shards, view, present, START, low)[::-1][:count]
    else:
        rows = union_rows(shards, view, present, high, END)[:count]
    return (debt, rows, ("shards", view, present, *plain_marks(low, high, rows, count, back)))


class ShardsTest(unittest.TestCase):

    def test_class_and_methods_are_defined_in_this_file(self):
        self.assertEqual(ShardedList.__module__, "steadypages.shards")
        for name in (
            "__init__", "put_row", "drop_row", "present_versions", "shard", "open_window", "page", "catch_up",
        ):
            self.assertIn(name, vars(sharding.ShardedList))

    def test_example(self):
        shards = ShardedList(("size",), 2)
        self.assertEqual(shards.put_row(1, (5,)), (0, 1))
        self.assertEqual(shards.put_row(2, (7,)), (1, 1))

    def test_by_name(self):
        shards = ShardedList(count=2, columns=("size",))
        self.assertEqual(shards.put_row(values=(5,), row_id=1), (0, 1))
        self.assertEqual(shards.drop_row(row_id=1), (0, 2))
        self.assertEqual(shards.shard(place=1).present(), 2)
        token = shards.open_window(mark=END, view=VIEW)
        self.assertEqual(token, ("shards", VIEW, (0, 2), END, END))
        self.assertEqual(shards.page(back=True, count=0, token=token), ([], [], token))
        self.assertEqual(shards.catch_up(token=token), ([], token))


class EditsTest(unittest.TestCase):

    def test_new_lists(self):
        for count in range(1, 9):
            shards = ShardedList(COLUMNS, count)
            self.assertEqual(shards.present_versions(), (0,) * count)
            for place in range(count):
                self.assertEqual(shards.shard(place), Table(COLUMNS))
            self.assertEqual(len({id(table) for table in all_tables(shards)}), count)

    def test_rows_are_in_the_table_with_the_index_modulo_the_number(self):
        for count in (1, 2, 3, 8):
            shards = ShardedList(("size",), count)
            versions = [0] * count
            for row_id in (1, 2, 3, 7, 8, 9, 16, 24, 999999, 10 ** 6):
                versions[row_id % count] += 1
                found = shards.put_row(row_id, (row_id % 5,))
                self.assertIs(type(found), tuple)
                self.assertEqual(found, tuple(versions))
                self.assertEqual(shards.present_versions(), tuple(versions))
                table = shards.shard(row_id % count)
                self.assertEqual(table.rows_at(table.present())[row_id], (row_id % 5,))
            self.assertEqual(sum(len(table) for table in all_tables(shards)), 10)
            for row_id in (1, 8, 10 ** 6):
                versions[row_id % count] += 1
                self.assertEqual(shards.drop_row(row_id), tuple(versions))
            self.assertEqual(sum(len(table) for table in all_tables(shards)), 7)

    def test_edits_that_make_no_version(self):
        shards = sharded(3, (1, 5), (2, 7))
        self.assertEqual(shards.put_row(1, (5,)), (0, 1, 1))
        self.assertEqual(shards.drop_row(4), (0, 1, 1))
        self.assertEqual(shards.drop_row(1), (0, 2, 1))
        self.assertEqual(shards.drop_row(1), (0, 2, 1))

    def test_wrong_rows_and_ids(self):
        for count in (1, 3):
            shards = sharded(count, (1, 5), (2, 7))
            before = shards.present_versions()
            wrong = [0, -1, 10 ** 6 + 1, 10 ** 60 - 1, True, False, None, "1", (1,), [1], {}]
            for row_id in wrong + [value for value in any_values() if value not in (1, 5)]:
                check_error(self, BadRow, "value", row_id, shards.drop_row, row_id)
                check_error(self, BadRow, "value", (row_id, (5,)), shards.put_row, row_id, (5,))
            for values in ((), (5, 5), [5], 5, None, (True,), (10 ** 9 + 1,), ("x" * 21,), {}, "a"):
                for row_id in (1, 2, 3):
                    check_error(self, BadRow, "value", (row_id, values), shards.put_row, row_id, values)
            self.assertEqual(shards.present_versions(), before)
            self.assertEqual([len(table) for table in all_tables(shards)], [2] if count == 1 else [0, 1, 1])

    def test_a_shard_is_the_table_itself(self):
        shards = sharded(2, (1, 5))
        self.assertIs(shards.shard(1), shards.shard(1))
        self.assertEqual(shards.shard(1).change_rows([("put", 3, (6,)), ("drop", 1)]), 2)
        self.assertEqual(shards.present_versions(), (0, 2))
        shards.put_row(3, (7,))
        self.assertEqual(shards.shard(1).rows_at(3), {3: (7,)})

    def test_lists_share_nothing(self):
        first, second = ShardedList(("size",), 2), ShardedList(("size",), 2)
        first.put_row(1, (5,))
        self.assertEqual(second.present_versions(), (0, 0))


class ReadingTest(unittest.TestCase):

    def test_open_window(self):
        shards = sharded(3, (1, 5), (2, 7), (4, 1))
        self.assertEqual(shards.open_window(VIEW), ("shards", VIEW, (0, 2, 1), START, START))
        for mark in (START, END, ("before", (5, 1)), ("after", (None, 7))):
            self.assertEqual(shards.open_window(VIEW, mark=mark), ("shards", VIEW, (0, 2, 1), mark, mark))
        with self.assertRaises(TypeError):
            shards.open_window(VIEW, END)

    def test_pages_of_an_example(self):
        shards = sharded(2, (1, 5), (2, 7), (3, 9), (4, 7))
        token = shards.open_window(VIEW)
        debt, rows, token = shards.page(token, 3)
        self.assertEqual(debt, [])
        self.assertEqual(rows, [((5, 1), (5,)), ((7, 2), (7,)), ((7, 4), (7,))])
        self.assertEqual(token, ("shards", VIEW, (2, 2), START, ("after", (7, 4))))
        shards.put_row(4, (8,))
        shards.drop_row(1)
        shards.put_row(2, (6,))
        self.assertEqual(shards.page(token, 1), (
            [("drop", 1), ("put", (6, 2), (6,)), ("drop", 4)], [((8, 4), (8,))],
            ("shards", VIEW, (4, 3), START, ("after", (8, 4))),
        ))
        self.assertEqual(shards.page(token, 2)[1:], (
            [((8, 4), (8,)), ((9, 3), (9,))], ("shards", VIEW, (4, 3), START, ("after", (9, 3))),
        ))
        self.assertEqual(shards.page(token, 3)[2][4], END)
        self.assertEqual(shards.catch_up(token), (
            [("drop", 1), ("put", (6, 2), (6,)), ("drop", 4)], ("shards", VIEW, (4, 3), START, ("after", (7, 4))),
        ))

    def test_pages_backward_of_an_example(self):
        shards = sharded(2, (1, 5), (2, 7), (3, 9), (4, 7))
        token = shards.open_window(VIEW, mark=END)
        self.assertEqual(shards.page(token, 0, back=True), ([], [], token))
        self.assertEqual(shards.page(token, 2, back=True), (
            [], [((9, 3), (9,)), ((7, 4), (7,))], ("shards", VIEW, (2, 2), ("before", (7, 4)), END),
        ))
        self.assertEqual(shards.page(token, 4, back=True)[2], ("shards", VIEW, (2, 2), ("before", (5, 1)), END))
        self.assertEqual(shards.page(token, 5, back=True)[2], ("shards", VIEW, (2, 2), START, END))
        self.assertEqual(len(shards.page(token, 10 ** 60 - 1, back=True)[1]), 4)
        with self.assertRaises(TypeError):
            shards.page(token, 5, True)

    def test_the_debt_is_in_ascending_order_of_ids_over_all_tables(self):
        shards = sharded(3, *[(row_id, 5) for row_id in range(1, 20)])
        token = shards.page(shards.open_window(VIEW), 100)[2]
        for row_id in range(19, 0, -1):
            if row_id % 5 == 0:
                shards.drop_row(row_id)
            else:
                shards.put_row(row_id, (20 - row_id,))
        ids = [item[1] if item[0] == "drop" else item[1][-1] for item in shards.page(token, 1)[0]]
        self.assertEqual(ids, list(range(1, 20)))
        self.assertEqual(shards.catch_up(token)[0], shards.page(token, 1)[0])

    def test_kinds_of_values(self):
        shards = sharded(2, (1, 5), (2, 7))
        result = shards.page(shards.open_window(VIEW), 1)
        self.assertEqual([type(part) for part in (result, *result, result[2][2])], [tuple, list, list, tuple, tuple])
        result = shards.catch_up(result[2])
        self.assertEqual([type(part) for part in (result, *result, result[1][2])], [tuple, list, tuple, tuple])

    def test_wrong_counts(self):
        shards = sharded(2, (1, 5), (2, 7))
        for count in [-1, -10 ** 60 + 1, True, False, None, "1", [], [1]] + any_values():
            if type(count) is int and count >= 0:
                continue
            for versions in ((1, 1), (9, 9), (1, 9)):
                token = ("shards", VIEW, versions, START, END)
                check_error(self, BadCount, "count", count, shards.page, token, count)
                check_error(self, BadCount, "count", count, shards.page, token, count, back=True)
        self.assertEqual(shards.present_versions(), (1, 1))

    def test_versions_that_are_not_known(self):
        shards = sharded(3, *[(row_id, 5) for row_id in range(1, 10)])
        shards.shard(1).forget_before(2)
        shards.shard(2).fold_to([0, 2])
        for versions, unknown in (
            ((4, 1, 1), 4), ((3, 1, 1), 1), ((3, 0, 4), 0), ((0, 2, 1), 1), ((0, 3, 5), 5), ((10 ** 60 - 1, 0, 0), 10 ** 60 - 1),
        ):
            for low, high in ((START, END), (START, START)):
                token = ("shards", VIEW, versions, low, high)
                for count, back in itertools.product((0, 5), (False, True)):
                    check_error(self, UnknownVersion, "version", unknown, shards.page, token, count, back=back)
                check_error(self, UnknownVersion, "version", unknown, shards.catch_up, token)
        self.assertEqual(len(shards.catch_up(("shards", VIEW, (1, 2, 0), START, END))[0]), 6)

    def test_the_lists_are_the_callers_own(self):
        shards = sharded(2, (1, 5), (2, 7))
        token = ("shards", VIEW, (1, 0), START, ("before", (6, 1)))
        debt, rows, new = shards.page(token, 5)
        debt.clear()
        rows.clear()
        self.assertEqual(shards.page(token, 5)[:2], ([("put", (5, 1), (5,))], [((7, 2), (7,))]))


class LikeOneTableTest(unittest.TestCase):

    def edit(self, maker, shards, table):
        """Do the same edits to a sharded list and to a table."""
        for _ in range(maker.randrange(1, 4)):
            row_id, values = maker.randrange(1, 14), random_values(maker)
            kind = maker.randrange(4)
            if kind == 0:
                shards.drop_row(row_id)
                table.drop_row(row_id)
            elif kind == 1:
                batch = [("put", row_id, values), ("drop", row_id % 3 + 1), ("put", 20, values)]
                table.change_rows(batch)
                count = len(shards.present_versions())
                for place in range(count):
                    shards.shard(place).change_rows([edit for edit in batch if edit[1] % count == place])
            else:
                shards.put_row(row_id, values)
                table.put_row(row_id, values)

    def check_alike(self, found, due):
        """Check that a page of a shard token is the page of a table but for the versions."""
        self.assertEqual(found[:-1], due[:-1])
        self.assertEqual((found[-1][1], *found[-1][3:]), (due[-1][1], *due[-1][3:]))

    def test_pages_and_catching_up(self):
        for seed, count, view in itertools.product(range(4), (1, 2, 3, 8), VIEWS):
            maker = random.Random(seed)
            shards, table = ShardedList(COLUMNS, count), Table(COLUMNS)
            self.edit(maker, shards, table)
            mark = maker.choice(some_marks(table, view))
            pairs = [(shards.open_window(view, mark=mark), open_window(table, view, mark=mark))]
            for _ in range(12):
                self.edit(maker, shards, table)
                # Tokens are used again.
                token, other = maker.choice(pairs)
                many, back = maker.choice((0, 1, 2, 5, 30)), maker.random() < 0.5
                found = shards.page(token, many, back=back)
                self.check_alike(found, page(table, other, many, back=back))
                self.assertEqual(found, plain_shard_page(shards, token, many, back))
                pairs.append((found[2], page(table, other, many, back=back)[2]))
                self.check_alike(shards.catch_up(token), catch_up(table, other))
                self.assertEqual(union_copy(shards, found[2]), plain_copy(table, *pairs[-1][1][1:]))

    def test_single_tables_that_are_reverted_folded_and_forgotten(self):
        for seed, count, view in itertools.product(range(6), (2, 3, 8), VIEWS):
            maker = random.Random(seed)
            shards = ShardedList(COLUMNS, count)
            token, rows = shards.open_window(view, mark=maker.choice([START, END])), {}
            for _ in range(15):
                self.edit(maker, shards, Table(COLUMNS))
                table = maker.choice(all_tables(shards))
                known = table.known_versions()
                kind = maker.randrange(4)
                if kind == 0:
                    table.revert_to(maker.choice(known))
                elif kind == 1:
                    table.fold_to([version for version in known if maker.random() < 0.8])
                elif kind == 2:
                    table.forget_before(known[len(known) // 4])
                unknown = [
                    version for part, version in zip(all_tables(shards), token[2]) if version not in part.known_versions()
                ]
                if unknown:
                    check_error(self, UnknownVersion, "version", unknown[0], shards.page, token, 2)
                    check_error(self, UnknownVersion, "version", unknown[0], shards.catch_up, token)
                    token, rows = shards.open_window(view, mark=maker.choice([START, END])), {}
                back = maker.random() < 0.5
                result = shards.page(token, maker.randrange(4), back=back)
                rows, token = plain_page_result(rows, result), result[2]
                self.assertEqual(rows, union_copy(shards, token))
                debt, new = shards.catch_up(token)
                self.assertEqual((debt, new), ([], token))

    def test_a_list_that_is_read_to_its_end(self):
        for seed, count, view in itertools.product(range(3), (1, 2, 3, 8), VIEWS):
            maker = random.Random(seed)
            shards, table = ShardedList(COLUMNS, count), Table(COLUMNS)
            for _ in range(15):
                self.edit(maker, shards, table)
            due = plain_window(table, view, table.present())
            for many, back in itertools.product((1, 2, 5, 100), (False, True)):
                token, gathered = shards.open_window(view, mark=END if back else START), []
                while token[3] != START or token[4] != END:
                    debt, rows, token = shards.page(token, many, back=back)
                    self.assertEqual(debt, [])
                    gathered += rows
                self.assertEqual(gathered, due[::-1] if back else due)

    def test_catching_up_is_applied_to_a_copy(self):
        maker = random.Random(7)
        shards = ShardedList(COLUMNS, 3)
        for _ in range(20):
            token = ("shards", VIEW, shards.present_versions(), ("before", (5, 1)), ("after", (7, 9)))
            rows = union_copy(shards, token)
            self.edit(maker, shards, Table(COLUMNS))
            debt, new = shards.catch_up(token)
            self.assertEqual(apply_corrections(rows, debt), union_copy(shards, new))


if __name__ == "__main__":
    unittest.main()
