import copy
import random
import unittest

from steadypages import tables
from steadypages.errors import BadColumns, BadRow, UnknownVersion
from steadypages.tables import Table
from steadypages.values import is_columns
from samples import any_values, check_error

COLUMNS = ("size", "name")


class Plain:
    """What a table has to be, in the words of the document: every version with all its rows."""

    def __init__(self, columns):
        self.columns = columns
        self.rows = [{}]
        self.changes = [{}]
        self.known = [0]

    def batch(self, edits):
        rows = dict(self.rows[-1])
        for edit in edits:
            if edit[0] == "put":
                rows[edit[1]] = edit[2]
            else:
                rows.pop(edit[1], None)
        if rows != self.rows[-1]:
            version = len(self.rows)
            self.changes.append({
                row_id: self.changes[-1][row_id] if self.rows[-1].get(row_id) == rows[row_id] else version
                for row_id in rows
            })
            self.rows.append(rows)
            self.known.append(version)
        return self.present()

    def present(self):
        return len(self.rows) - 1

    def revert_to(self, version):
        edits = [("drop", row_id) for row_id in self.rows[-1]]
        return self.batch(edits + [("put", row_id, values) for row_id, values in self.rows[version].items()])

    def fold_to(self, versions):
        self.known = sorted({*versions, self.present()})

    def log_entries(self):
        entries = []
        for earlier, later in zip(self.known, self.known[1:]):
            before, after = self.rows[earlier], self.rows[later]
            for row_id in sorted({*before, *after}):
                if before.get(row_id) != after.get(row_id):
                    entries.append((later, row_id, before.get(row_id), after.get(row_id)))
        return entries


class TablesTest(unittest.TestCase):

    def check(self, table, plain):
        """Check that a table is as the plain one in everything that its methods tell."""
        self.assertEqual(table.column_names(), plain.columns)
        self.assertEqual(table.present(), plain.present())
        self.assertEqual(table.known_versions(), plain.known)
        self.assertEqual(len(table), len(plain.rows[-1]))
        for version in range(-1, plain.present() + 2):
            if version in plain.known:
                self.assertEqual(table.rows_at(version), plain.rows[version])
                self.assertEqual(table.changes_at(version), plain.changes[version])
            else:
                self.check_unknown(table, version)
        self.assertEqual(table.log_entries(), plain.log_entries())

    def check_unknown(self, table, version):
        for method in (table.rows_at, table.changes_at, table.forget_before, table.revert_to):
            check_error(self, UnknownVersion, "version", version, method, version)

    def picture(self, table):
        """Return everything that the methods of a table tell."""
        known = table.known_versions()
        return (
            table.column_names(), table.present(), known, len(table), table.log_entries(),
            [table.rows_at(version) for version in known], [table.changes_at(version) for version in known],
        )

    def grown(self, many=6):
        """Return a table of one column with versions that change, drop and put back rows."""
        table = Table(("size",))
        batches = [
            [("put", 1, (5,)), ("put", 2, (7,))],
            [("put", 1, (6,))],
            [("drop", 2), ("put", 3, (9,))],
            [("put", 2, (7,))],
            [("put", 1, (5,))],
            [("drop", 3), ("drop", 1)],
        ]
        for batch in batches[:many]:
            table.change_rows(batch)
        self.assertEqual(table.present(), many)
        return table


class NewTableTest(TablesTest):

    def test_class_and_methods_are_defined_in_this_file(self):
        self.assertEqual(Table.__module__, "steadypages.tables")
        for name in (
            "column_names", "put_row", "drop_row", "change_rows", "revert_to", "present", "known_versions", "rows_at",
            "changes_at", "forget_before", "fold_to", "log_entries", "__eq__", "__len__", "__init__",
        ):
            self.assertIn(name, vars(tables.Table))

    def test_new_table(self):
        for columns in (("size",), COLUMNS, ("a", "b", "c", "d", "e", "f")):
            table = Table(columns)
            self.check(table, Plain(columns))
            self.assertEqual(self.picture(table), (columns, 0, [0], 0, [], [{}], [{}]))

    def test_columns_that_are_none(self):
        for value in any_values():
            with self.subTest(value=value):
                if not is_columns(value):
                    check_error(self, BadColumns, "value", value, Table, value)
        for value in (
            (), ["size"], ("size", "size"), ("all",), ("Size",), ("a",) * 7, tuple("abcdefg"), "size", None, ("size", 1),
            {"size": 1}, ("abcdefghi",), ("",), (["size"],),
        ):
            check_error(self, BadColumns, "value", value, Table, value)

    def test_by_name(self):
        self.assertEqual(Table(columns=COLUMNS).column_names(), COLUMNS)


class EditsTest(TablesTest):

    def test_examples(self):
        table = Table(("size",))
        self.assertEqual(table.put_row(1, (5,)), 1)
        self.assertEqual(table.put_row(1, (5,)), 1)
        self.assertEqual(table.put_row(2, (7,)), 2)
        self.assertEqual(table.change_rows([("put", 1, (6,)), ("drop", 2)]), 3)
        self.assertEqual(table.log_entries(), [(1, 1, None, (5,)), (2, 2, None, (7,)), (3, 1, (5,), (6,)), (3, 2, (7,), None)])
        table.fold_to([1])
        self.assertEqual(table.log_entries(), [(3, 1, (5,), (6,))])

    def test_example_of_forgetting(self):
        table = Table(("size",))
        for row_id, value in ((1, 5), (2, 7), (3, 9)):
            table.put_row(row_id, (value,))
        table.forget_before(3)
        check_error(self, UnknownVersion, "version", 2, table.rows_at, 2)

    def test_puts(self):
        table, plain = Table(COLUMNS), Plain(COLUMNS)
        for row_id, values in (
            (5, (1, "a")), (2, (None, None)), (5, (1, "b")), (5, (1, "b")), (2, (None, None)), (2, (None, "")),
            (2, ("", None)), (2, (0, None)), (10 ** 6, (10 ** 9, "x" * 20)), (1, (-10 ** 9, "~")), (5, (1, "a")),
        ):
            self.assertEqual(table.put_row(row_id, values), plain.batch([("put", row_id, values)]))
            self.check(table, plain)

    def test_drops(self):
        table, plain = Table(("size",)), Plain(("size",))
        self.assertEqual(table.drop_row(1), 0)
        self.check(table, plain)
        for edit in (
            ("put", 1, (5,)), ("put", 2, (7,)), ("drop", 3), ("drop", 1), ("drop", 1), ("put", 1, (5,)), ("drop", 2),
            ("drop", 10 ** 6), ("drop", 1), ("drop", 2),
        ):
            found = table.drop_row(edit[1]) if edit[0] == "drop" else table.put_row(edit[1], edit[2])
            self.assertEqual(found, plain.batch([edit]))
            self.check(table, plain)
        self.assertEqual(len(table), 0)
        self.assertEqual(table.present(), 6)

    def test_change_versions(self):
        table = self.grown()
        self.assertEqual(table.changes_at(1), {1: 1, 2: 1})
        self.assertEqual(table.changes_at(2), {1: 2, 2: 1})
        self.assertEqual(table.changes_at(3), {1: 2, 3: 3})
        self.assertEqual(table.changes_at(4), {1: 2, 2: 4, 3: 3})
        self.assertEqual(table.changes_at(5), {1: 5, 2: 4, 3: 3})
        self.assertEqual(table.changes_at(6), {2: 4})
        table.put_row(1, (5,))
        self.assertEqual(table.changes_at(7), {1: 7, 2: 4})

    def wrong_ids(self):
        wrong = [0, -1, 10 ** 6 + 1, 10 ** 60 - 1, True, False, None, "1", "", (1,), [1], {1: 1}, (), [], {}]
        return wrong + [value for value in any_values() if value not in (1, 5)]

    def test_wrong_ids(self):
        table = self.grown()
        before = self.picture(table)
        for row_id in self.wrong_ids():
            with self.subTest(row_id=row_id):
                check_error(self, BadRow, "value", row_id, table.drop_row, row_id)
                check_error(self, BadRow, "value", (row_id, (5,)), table.put_row, row_id, (5,))
                self.assertEqual(self.picture(table), before)

    def test_wrong_values(self):
        table = self.grown()
        before = self.picture(table)
        wrong = [
            (), (5, 5), [5], [], 5, None, "a", "5", {5: 5}, {}, (True,), (False,), (10 ** 9 + 1,), (-10 ** 9 - 1,),
            ("x" * 21,), ("\n",), ((5,),), ([5],), ({},), (5, None), True,
        ]
        wrong += [value for value in any_values() if value != (None,) and value != ("all",) and value != ("size",)]
        for values in wrong:
            with self.subTest(values=values):
                check_error(self, BadRow, "value", (1, values), table.put_row, 1, values)
                check_error(self, BadRow, "value", (99, values), table.put_row, 99, values)
                self.assertEqual(self.picture(table), before)
        two = Table(COLUMNS)
        for values in ((5,), (5, "a", None), (5, True), (True, "a"), (5, "x" * 21), (5, []), [5, "a"]):
            check_error(self, BadRow, "value", (1, values), two.put_row, 1, values)
        self.assertEqual(two.present(), 0)

    def test_errors_keep_the_value_itself(self):
        row_id, values = [1], [5]
        with self.assertRaises(BadRow) as caught:
            Table(("size",)).put_row(row_id, values)
        self.assertIs(caught.exception.value[0], row_id)
        self.assertIs(caught.exception.value[1], values)

    def test_by_name(self):
        table = Table(("size",))
        self.assertEqual(table.put_row(values=(5,), row_id=1), 1)
        self.assertEqual(table.drop_row(row_id=1), 2)


class BatchesTest(TablesTest):

    def test_batches(self):
        table, plain = Table(("size",)), Plain(("size",))
        for batch in (
            [],
            [("put", 1, (5,)), ("put", 2, (7,)), ("put", 3, (9,))],
            [],
            [("put", 1, (6,)), ("put", 1, (8,))],
            [("put", 1, (6,)), ("put", 1, (8,))],
            [("drop", 1), ("put", 1, (8,))],
            [("drop", 1), ("put", 1, (8,)), ("put", 2, (0,))],
            [("put", 4, (1,)), ("drop", 4)],
            [("put", 4, (1,)), ("drop", 4), ("put", 4, (2,))],
            [("put", 4, (3,)), ("put", 4, (2,))],
            [("drop", 4), ("drop", 4)],
            [("drop", 4)],
            [("drop", 9), ("drop", 8)],
            [("drop", 3), ("put", 3, (9,)), ("drop", 3)],
            [("put", 3, (9,)), ("put", 1, (8,))],
            [("drop", 1), ("drop", 2), ("drop", 3)],
            [("put", 1, (8,)), ("put", 2, (0,)), ("drop", 1)],
        ):
            with self.subTest(batch=batch):
                self.assertEqual(table.change_rows(batch), plain.batch(batch))
                self.check(table, plain)
        self.assertEqual(table.present(), 9)

    def test_a_removal_and_the_same_row_again_keeps_the_change_version(self):
        table = Table(("size",))
        table.put_row(1, (5,))
        self.assertEqual(table.change_rows([("drop", 1), ("put", 1, (5,))]), 1)
        self.assertEqual(table.change_rows([("drop", 1), ("put", 1, (5,)), ("put", 2, (5,))]), 2)
        self.assertEqual(table.changes_at(2), {1: 1, 2: 2})

    def wrong_edits(self):
        return [
            (), ("put",), ("put", 1), ("put", 1, (5,), None), ("put", 0, (5,)), ("put", True, (5,)), ("put", 1, [5]),
            ("put", 1, ()), ("put", 1, (5, 6)), ("put", 1, (True,)), ("put", 1, 5), ("put", (1, (5,))), ("put", "1", (5,)),
            ("put", 10 ** 6 + 1, (5,)), ("put", 1, ("x" * 21,)), ("put", [1], (5,)), ("put", 1, {}),
            ("drop",), ("drop", 0), ("drop", 10 ** 6 + 1), ("drop", 1, (5,)), ("drop", None), ("drop", True),
            ("drop", "1"), ("drop", [1]), ("drop", (1,)), ("drop", 1, 2), ("drop", {}),
            ["put", 1, (5,)], ["drop", 1], {"drop": 1}, "drop", "put", ("Put", 1, (5,)), ("Drop", 1), ("remove", 1),
            (1, (5,)), (1,), None, 1, (None, 1), ([], 1), ({}, 1, (5,)), ("", 1), (1, "drop"), (("drop", 1),),
        ] + any_values()

    def test_items_that_are_no_edits_at_any_place(self):
        table = self.grown()
        before = self.picture(table)
        good = [("put", 1, (77,)), ("drop", 2), ("put", 50, (1,))]
        for wrong in self.wrong_edits():
            with self.subTest(wrong=wrong):
                for place in range(len(good) + 1):
                    edits = good[:place] + [wrong] + good[place:]
                    check_error(self, BadRow, "value", wrong, table.change_rows, edits)
                    self.assertEqual(self.picture(table), before)

    def test_the_first_wrong_item_counts(self):
        table = Table(("size",))
        for first, second in ((("drop", 0), None), (None, ("drop", 0)), (("put", 1, ()), ("drop", -1)), ([1], [2])):
            check_error(self, BadRow, "value", first, table.change_rows, [("put", 1, (5,)), first, second])
        self.assertEqual(table.present(), 0)

    def test_by_name(self):
        self.assertEqual(Table(("size",)).change_rows(edits=[("put", 1, (5,))]), 1)


class RevertTest(TablesTest):

    def test_earlier_versions_and_the_present_one(self):
        for many in range(7):
            for version in range(many + 1):
                table, plain = self.grown(many), Plain(("size",))
                for at in range(1, many + 1):
                    plain.batch([("drop", row_id) for row_id in plain.rows[-1]]
                                + [("put", row_id, values) for row_id, values in table.rows_at(at).items()])
                self.check(table, plain)
                with self.subTest(many=many, version=version):
                    found = table.revert_to(version)
                    self.assertEqual(found, plain.revert_to(version))
                    self.check(table, plain)
                    self.assertEqual(table.rows_at(found), table.rows_at(version))

    def test_the_present_version_makes_no_version(self):
        table = self.grown()
        before = self.picture(table)
        self.assertEqual(table.revert_to(6), 6)
        self.assertEqual(self.picture(table), before)

    def test_the_same_rows_at_another_version_make_no_version(self):
        table = Table(("size",))
        table.put_row(1, (5,))
        table.put_row(1, (6,))
        table.put_row(1, (5,))
        self.assertEqual(table.revert_to(1), 3)
        self.assertEqual(table.changes_at(3), {1: 3})

    def test_change_versions_of_rows_that_stay(self):
        table = Table(("size",))
        table.put_row(1, (5,))
        table.put_row(2, (6,))
        table.change_rows([("put", 2, (7,)), ("put", 3, (8,))])
        self.assertEqual(table.revert_to(2), 4)
        self.assertEqual(table.changes_at(4), {1: 1, 2: 4})
        self.assertEqual(table.revert_to(0), 5)
        self.assertEqual(table.rows_at(5), {})
        self.assertEqual(table.revert_to(0), 5)

    def test_by_name(self):
        self.assertEqual(self.grown().revert_to(version=0), 7)


class VersionsTest(TablesTest):

    def test_values_that_are_no_known_versions(self):
        table = self.grown()
        table.fold_to([0, 1, 2, 4])
        before = self.picture(table)
        wrong = [-1, 3, 5, 7, 10 ** 60 - 1, -10 ** 60 + 1, True, False, None, "1", "", (1,), [1], {1: 1}, (), [], {}]
        wrong += [value for value in any_values() if value is True or value is False or value not in (0, 1)]
        for version in wrong:
            with self.subTest(version=version):
                self.check_unknown(table, version)
                for versions in ([version], [0, version], [version, 99], [4, 4, version, None, -5]):
                    check_error(self, UnknownVersion, "version", version, table.fold_to, versions)
                self.assertEqual(self.picture(table), before)

    def test_returned_values_by_name(self):
        table = self.grown()
        self.assertEqual(table.rows_at(version=1), {1: (5,), 2: (7,)})
        self.assertEqual(table.changes_at(version=1), {1: 1, 2: 1})
        self.assertIsNone(table.fold_to(versions=[1, 3]))
        self.assertEqual(table.known_versions(), [1, 3, 6])
        self.assertIsNone(table.forget_before(version=3))
        self.assertEqual(table.known_versions(), [3, 6])


class ForgetTest(TablesTest):

    def test_forget_before_each_version(self):
        for version in range(7):
            table = self.grown()
            pictures = {at: (table.rows_at(at), table.changes_at(at)) for at in range(7)}
            log = table.log_entries()
            self.assertIsNone(table.forget_before(version))
            self.assertEqual(table.known_versions(), list(range(version, 7)))
            for at in range(version):
                self.check_unknown(table, at)
            for at in range(version, 7):
                self.assertEqual((table.rows_at(at), table.changes_at(at)), pictures[at])
            self.assertEqual(table.log_entries(), [entry for entry in log if entry[0] > version])
            self.assertEqual(table.present(), 6)

    def test_unknown_versions_stay_unknown(self):
        table = self.grown()
        table.forget_before(4)
        self.check_unknown(table, 2)
        self.assertEqual(table.put_row(1, (6,)), 7)
        self.assertEqual(table.known_versions(), [4, 5, 6, 7])
        table.forget_before(4)
        self.assertEqual(table.known_versions(), [4, 5, 6, 7])
        table.forget_before(7)
        self.assertEqual(table.known_versions(), [7])
        self.assertEqual(table.log_entries(), [])
        self.assertEqual(table.drop_row(2), 8)
        self.assertEqual(table.log_entries(), [(8, 2, (7,), None)])

    def test_forget_nothing(self):
        table = Table(("size",))
        table.forget_before(0)
        self.assertEqual(table.known_versions(), [0])
        table.put_row(1, (5,))
        table.forget_before(0)
        self.assertEqual(table.known_versions(), [0, 1])


class FoldTest(TablesTest):

    def test_lists_of_versions(self):
        for versions, known in (
            ([], [6]), ([6], [6]), ([0], [0, 6]), ([3, 1], [1, 3, 6]), ([5, 1, 3, 1, 5, 5], [1, 3, 5, 6]),
            ([6, 5, 4, 3, 2, 1, 0], [0, 1, 2, 3, 4, 5, 6]), ([0, 1, 2, 3, 4, 5, 6], [0, 1, 2, 3, 4, 5, 6]),
            ([6, 6, 0, 0], [0, 6]), ([2], [2, 6]),
        ):
            with self.subTest(versions=versions):
                table = self.grown()
                pictures = {at: (table.rows_at(at), table.changes_at(at)) for at in range(7)}
                given = list(versions)
                self.assertIsNone(table.fold_to(given))
                self.assertEqual(given, versions)
                self.assertEqual(table.known_versions(), known)
                for at in range(7):
                    if at in known:
                        self.assertEqual((table.rows_at(at), table.changes_at(at)), pictures[at])
                    else:
                        self.check_unknown(table, at)
                self.assertEqual(table.present(), 6)

    def test_what_the_log_gives_after_folding(self):
        table = self.grown()
        table.fold_to([1, 4])
        self.assertEqual(table.log_entries(), [
            (4, 1, (5,), (6,)), (4, 3, None, (9,)), (6, 1, (6,), None), (6, 3, (9,), None),
        ])
        table.fold_to([4])
        self.assertEqual(table.log_entries(), [(6, 1, (6,), None), (6, 3, (9,), None)])
        table.fold_to([])
        self.assertEqual(table.log_entries(), [])

    def test_ids_whose_values_are_the_same_again(self):
        table = self.grown(5)
        table.fold_to([1])
        self.assertEqual(table.log_entries(), [(5, 3, None, (9,))])
        self.assertEqual(table.rows_at(5), {1: (5,), 2: (7,), 3: (9,)})
        self.assertEqual(table.changes_at(1), {1: 1, 2: 1})
        self.assertEqual(table.changes_at(5), {1: 5, 2: 4, 3: 3})

    def test_ids_that_come_and_go_between_two_versions(self):
        table = Table(("size",))
        table.put_row(1, (5,))
        table.put_row(2, (6,))
        table.drop_row(2)
        table.put_row(3, (7,))
        table.fold_to([1])
        self.assertEqual(table.log_entries(), [(4, 3, None, (7,))])
        self.assertEqual(table.changes_at(4), {1: 1, 3: 4})

    def test_edits_after_folding(self):
        table = self.grown()
        table.fold_to([1, 2])
        self.assertEqual(table.put_row(2, (8,)), 7)
        self.assertEqual(table.known_versions(), [1, 2, 6, 7])
        self.assertEqual(table.log_entries()[-1], (7, 2, (7,), (8,)))
        self.assertEqual(table.revert_to(1), 8)
        self.assertEqual(table.rows_at(8), {1: (5,), 2: (7,)})
        self.assertEqual(table.changes_at(8), {1: 8, 2: 8})


class EqualityTest(TablesTest):

    def check_equal(self, first, second, due):
        self.assertIs(first == second, due)
        self.assertIs(second == first, due)
        self.assertIs(first != second, not due)
        self.assertIs(second != first, not due)

    def built(self, columns, *batches):
        table = Table(columns)
        for batch in batches:
            table.change_rows(batch)
        return table

    def test_different_edits_that_give_the_same(self):
        first, second = Table(("size",)), Table(("size",))
        self.check_equal(first, second, True)
        self.check_equal(first, first, True)
        first.put_row(1, (5,))
        first.put_row(2, (7,))
        first.drop_row(1)
        second.change_rows([("put", 1, (0,)), ("put", 1, (5,))])
        second.change_rows([("drop", 9), ("put", 2, (8,)), ("put", 2, (7,))])
        second.put_row(2, (7,))
        self.check_equal(first, second, False)
        second.change_rows([("put", 2, (0,)), ("drop", 1), ("put", 2, (7,))])
        self.check_equal(first, second, True)
        self.assertEqual(self.picture(first), self.picture(second))

    def test_reverting_and_dropping(self):
        first = self.built(("size",), [("put", 1, (5,))], [("put", 2, (5,))])
        second = self.built(("size",), [("put", 1, (5,))], [("put", 2, (5,))])
        first.revert_to(1)
        self.check_equal(first, second, False)
        second.drop_row(2)
        self.check_equal(first, second, True)

    def test_rows_put_in_another_order(self):
        edits = [("put", row_id, (row_id,)) for row_id in range(1, 6)]
        self.check_equal(self.built(("size",), edits), self.built(("size",), edits[::-1]), True)

    def test_other_columns(self):
        self.check_equal(Table(("size",)), Table(("name",)), False)
        self.check_equal(Table(("size", "name")), Table(("name", "size")), False)
        self.check_equal(Table(("size",)), Table(("size", "name")), False)

    def test_other_rows(self):
        base = self.built(("size",), [("put", 1, (5,))])
        self.check_equal(base, self.built(("size",), [("put", 1, (6,))]), False)
        self.check_equal(base, self.built(("size",), [("put", 2, (5,))]), False)
        self.check_equal(base, self.built(("size",), [("put", 1, (5,)), ("put", 2, (5,))]), False)
        self.check_equal(base, self.built(("size",), [("put", 1, ("5",))]), False)
        self.check_equal(base, self.built(("size",), [("put", 1, (None,))]), False)
        self.check_equal(base, self.built(("size",), [("put", 1, (5,))]), True)

    def test_other_rows_at_an_earlier_version(self):
        first = self.built(("size",), [("put", 1, (5,))], [("put", 1, (7,))])
        second = self.built(("size",), [("put", 1, (6,))], [("put", 1, (7,))])
        self.check_equal(first, second, False)
        first.fold_to([0])
        second.fold_to([0])
        self.check_equal(first, second, True)

    def test_other_versions(self):
        first = self.built(("size",), [("put", 1, (5,))], [("put", 1, (7,))])
        second = self.built(("size",), [("put", 1, (5,))], [("put", 1, (7,))])
        self.check_equal(first, second, True)
        first.forget_before(1)
        self.check_equal(first, second, False)
        second.fold_to([1])
        self.check_equal(first, second, True)
        first.forget_before(2)
        second.fold_to([1])
        self.check_equal(first, second, False)
        self.assertEqual(first.rows_at(2), second.rows_at(2))

    def test_other_present_versions(self):
        first = self.built(("size",), [("put", 1, (5,))], [("drop", 1)])
        self.check_equal(first, Table(("size",)), False)
        first.fold_to([])
        self.check_equal(first, Table(("size",)), False)

    def test_other_change_versions(self):
        first = self.built(("size",), [("put", 1, (5,))], [("put", 2, (7,))])
        second = self.built(("size",), [("put", 2, (7,))], [("put", 1, (5,))])
        first.fold_to([])
        second.fold_to([])
        self.assertEqual(first.rows_at(2), second.rows_at(2))
        self.assertEqual(first.changes_at(2), {1: 1, 2: 2})
        self.assertEqual(second.changes_at(2), {1: 2, 2: 1})
        self.check_equal(first, second, False)

    def test_change_versions_with_the_same_values_again(self):
        first = self.built(("size",), [("put", 1, (5,))], [("drop", 1)], [("put", 1, (5,)), ("put", 2, (5,))])
        second = self.built(("size",), [("put", 1, (5,))], [("put", 2, (6,))], [("put", 2, (5,))])
        first.fold_to([1])
        second.fold_to([1])
        self.assertEqual(first.rows_at(3), second.rows_at(3))
        self.assertEqual(first.log_entries(), second.log_entries())
        self.check_equal(first, second, False)

    def test_folding_at_once_and_in_steps(self):
        first, second = self.grown(), self.grown()
        first.fold_to([1, 4])
        for versions in ([0, 1, 2, 4, 5], [1, 4, 5], [4, 1]):
            second.fold_to(versions)
        self.check_equal(first, second, True)
        first.forget_before(4)
        second.fold_to([4])
        self.check_equal(first, second, True)

    def test_other_values(self):
        table = self.grown()
        for value in [*any_values(), object(), Plain(("size",)), Table, self.picture(table)]:
            self.assertIs(table == value, False)
            self.assertIs(value == table, False)
            self.assertIs(table != value, True)


class SharingTest(TablesTest):

    def test_arguments_that_the_caller_changes(self):
        table = Table(("size",))
        edits = [("put", 1, (5,)), ("put", 2, (7,))]
        table.change_rows(edits)
        edits[0] = ("drop", 1)
        edits.append(("drop", 2))
        self.assertEqual(table.rows_at(1), {1: (5,), 2: (7,)})
        versions = [0]
        table.fold_to(versions)
        versions.append(99)
        self.assertEqual(table.known_versions(), [0, 1])

    def test_arguments_stay_as_they_were(self):
        table = self.grown()
        edits = [("put", 1, (5,)), ("drop", 2), ("put", 1, (6,))]
        before = copy.deepcopy(edits)
        table.change_rows(edits)
        self.assertEqual(edits, before)

    def test_returned_values_that_the_caller_changes(self):
        table = self.grown()
        before = copy.deepcopy(self.picture(table))
        for version in range(7):
            rows, changes = table.rows_at(version), table.changes_at(version)
            rows[1] = (99,)
            rows.pop(2, None)
            changes[1] = 99
            changes.clear()
        table.known_versions().append(99)
        table.known_versions().clear()
        table.log_entries().clear()
        table.log_entries()[0] = None
        self.assertEqual(self.picture(table), before)

    def test_returned_values_are_new(self):
        table = self.grown()
        for method, arguments in (
            (table.rows_at, (1,)), (table.changes_at, (1,)), (table.known_versions, ()), (table.log_entries, ()),
            (table.column_names, ()), (table.rows_at, (6,)), (table.changes_at, (6,)),
        ):
            self.assertEqual(method(*arguments), method(*arguments))
            self.assertIsNot(method(*arguments), method(*arguments))

    def test_two_tables_share_nothing(self):
        columns = ("size",)
        first, second = Table(columns), Table(columns)
        first.put_row(1, (5,))
        self.assertEqual(self.picture(second), self.picture(Table(columns)))
        second.put_row(2, (6,))
        second.fold_to([])
        self.assertEqual(first.rows_at(1), {1: (5,)})
        self.assertEqual(first.known_versions(), [0, 1])

    def test_reading_changes_nothing(self):
        table = self.grown()
        self.assertEqual(self.picture(table), self.picture(table))
        self.assertEqual(table, self.grown())


class HistoryTest(TablesTest):

    def test_many_versions(self):
        table, plain = Table(("size",)), Plain(("size",))
        for number in range(300):
            edit = ("put", number % 17 + 1, (number,)) if number % 5 else ("drop", number % 11 + 1)
            found = table.change_rows([edit])
            self.assertEqual(found, plain.batch([edit]))
        self.assertGreater(table.present(), 200)
        self.check(table, plain)
        for versions in (range(0, 200, 3), range(0, 200, 6), range(60, 150, 30), [90]):
            table.fold_to(list(versions))
            plain.fold_to(versions)
            self.check(table, plain)

    def test_random_edits(self):
        for seed in range(60):
            maker = random.Random(seed)
            table, plain = Table(COLUMNS), Plain(COLUMNS)
            for _ in range(25):
                self.step(maker, table, plain)
                self.check(table, plain)

    def step(self, maker, table, plain):
        """Do the same to a table and to a plain one."""
        kind = maker.choice(["put", "put", "drop", "batch", "batch", "revert", "forget", "fold"])
        if kind == "revert":
            version = maker.choice(plain.known)
            self.assertEqual(table.revert_to(version), plain.revert_to(version))
        elif kind == "forget":
            version = maker.choice(plain.known[:3])
            table.forget_before(version)
            plain.fold_to([known for known in plain.known if known >= version])
        elif kind == "fold":
            versions = maker.choices(plain.known, k=maker.randrange(2 * len(plain.known)))
            table.fold_to(versions)
            plain.fold_to(versions)
        else:
            edits = [self.random_edit(maker, kind) for _ in range(maker.randrange(5) if kind == "batch" else 1)]
            if kind == "put":
                found = table.put_row(edits[0][1], edits[0][2])
            elif kind == "drop":
                found = table.drop_row(edits[0][1])
            else:
                found = table.change_rows(edits)
            self.assertEqual(found, plain.batch(edits))

    def random_edit(self, maker, kind):
        row_id = maker.randrange(1, 5)
        if kind == "drop" or kind == "batch" and maker.random() < 0.4:
            return ("drop", row_id)
        return ("put", row_id, (maker.choice([None, 0, 1]), maker.choice(["", "a"])))


if __name__ == "__main__":
    unittest.main()
