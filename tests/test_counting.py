import itertools
import unittest

from steadypages import counting
from steadypages.counting import changed_rows, unchanged_count
from steadypages.errors import UnknownVersion
from steadypages.tables import Table
from histories import ALL, END, START, VIEW, VIEWS, grown, plain_window, some_marks
from samples import any_values, check_error


def example():
    table = Table(("size",))
    for row_id, value in ((1, 5), (2, 7), (1, 9)):
        table.put_row(row_id, (value,))
    return table


class CountingTest(unittest.TestCase):

    def check(self, table, view, since, at, low, high, due):
        """Check the rows of a window that are not unchanged since a version, and the number of the others."""
        with self.subTest(since=since, at=at, low=low, high=high):
            found = changed_rows(table, view, since, at, low, high)
            self.assertIs(type(found), list)
            self.assertEqual(found, due)
            count = unchanged_count(table, view, since, at, low, high)
            self.assertIs(type(count), int)
            self.assertEqual(count + len(found), len(plain_window(table, view, at, low, high)))

    def test_functions_are_defined_in_this_file(self):
        for name in ("unchanged_count", "changed_rows"):
            self.assertEqual(getattr(counting, name).__module__, "steadypages.counting")

    def test_example(self):
        self.assertEqual(unchanged_count(example(), VIEW, 2, 3, START, END), 1)
        self.assertEqual(changed_rows(example(), VIEW, 2, 3, START, END), [((9, 1), (9,))])

    def test_since_before_and_at_and_equal_to_at(self):
        table = example()
        five, seven, nine = ((5, 1), (5,)), ((7, 2), (7,)), ((9, 1), (9,))
        for since, at, due in (
            (0, 0, []), (0, 1, [five]), (1, 1, []), (0, 2, [five, seven]), (1, 2, [seven]), (2, 2, []),
            (0, 3, [seven, nine]), (1, 3, [seven, nine]), (2, 3, [nine]), (3, 3, []),
        ):
            self.check(table, VIEW, since, at, START, END, due)

    def test_windows(self):
        table = example()
        for low, high, due in (
            (START, START, []), (END, END, []), (("before", (9, 1)), ("before", (9, 1)), []),
            (START, ("before", (9, 1)), []), (START, ("after", (9, 1)), [((9, 1), (9,))]),
            (("before", (9, 1)), END, [((9, 1), (9,))]), (("after", (9, 1)), END, []),
        ):
            self.check(table, VIEW, 2, 3, low, high, due)
        self.assertEqual(unchanged_count(table, VIEW, 2, 3, START, ("before", (7, 2))), 0)
        self.assertEqual(unchanged_count(table, VIEW, 2, 3, START, ("after", (7, 2))), 1)
        self.assertEqual(unchanged_count(table, VIEW, 2, 3, ("before", (7, 2)), ("after", (7, 2))), 1)
        self.assertEqual(unchanged_count(table, VIEW, 2, 3, ("after", (7, 2)), END), 0)

    def test_rows_that_are_changed_back_count_as_changed(self):
        table = example()
        table.put_row(1, (5,))
        table.drop_row(2)
        table.put_row(2, (7,))
        five, seven = ((5, 1), (5,)), ((7, 2), (7,))
        self.check(table, VIEW, 1, 6, START, END, [five, seven])
        self.check(table, VIEW, 2, 6, START, END, [five, seven])
        self.check(table, VIEW, 4, 6, START, END, [seven])
        self.check(table, VIEW, 5, 6, START, END, [seven])
        self.check(table, VIEW, 6, 6, START, END, [])

    def test_rows_that_are_changed_in_columns_that_are_not_shown(self):
        table = Table(("size", "name"))
        table.change_rows([("put", 1, (5, "a")), ("put", 2, (6, "a"))])
        table.put_row(1, (5, "b"))
        self.check(table, VIEW, 1, 2, START, END, [((5, 1), (5,))])
        self.check(table, (ALL, (), ()), 1, 2, START, END, [((1,), ())])
        self.check(table, (("less", 0, 6), ((1, True),), ()), 1, 2, START, END, [(("b", 1), ())])
        self.check(table, (("equal", 1, "a"), (), ()), 1, 2, START, END, [])

    def test_versions_that_are_not_known_any_more(self):
        table = example()
        table.forget_before(3)
        self.check(table, VIEW, 2, 3, START, END, [((9, 1), (9,))])
        self.check(table, VIEW, 0, 3, START, END, [((7, 2), (7,)), ((9, 1), (9,))])
        table.put_row(3, (8,))
        table.put_row(3, (6,))
        table.fold_to([])
        self.check(table, VIEW, 3, 5, START, END, [((6, 3), (6,))])
        self.check(table, VIEW, 1, 5, START, END, [((6, 3), (6,)), ((7, 2), (7,)), ((9, 1), (9,))])
        self.check(table, VIEW, 2, 5, START, END, [((6, 3), (6,)), ((9, 1), (9,))])

    def test_in_another_way(self):
        for seed, view in itertools.product(range(6), VIEWS):
            table = grown(seed + 600)
            if seed % 2 == 1:
                table.fold_to([2, 3, 6])
            for at in table.known_versions():
                changes = table.changes_at(at)
                for low, high in itertools.combinations_with_replacement(some_marks(table, view)[::2], 2):
                    window = plain_window(table, view, at, low, high)
                    for since in range(at + 1):
                        due = [row for row in window if changes[row[0][-1]] > since]
                        self.check(table, view, since, at, low, high, due)

    def test_an_unchanged_row_is_delivered_as_it_was(self):
        for seed, view in itertools.product(range(6), VIEWS):
            table = grown(seed + 700)
            for since, at in itertools.combinations(range(9), 2):
                changed = changed_rows(table, view, since, at, START, END)
                for row in plain_window(table, view, at):
                    if row not in changed:
                        self.assertIn(row, plain_window(table, view, since))

    def test_a_version_that_is_not_known(self):
        table = example()
        table.fold_to([1])
        for call in (unchanged_count, changed_rows):
            for version in (2, 4, 10 ** 60 - 1, -1, *any_values()):
                if version is True or version not in (0, 1):
                    check_error(self, UnknownVersion, "version", version, call, table, VIEW, 0, version, START, END)
            check_error(self, UnknownVersion, "version", 0, call, table, VIEW, 0, 0, START, START)

    def test_the_table_stays_as_it_was(self):
        table = example()
        changed_rows(table, VIEW, 0, 3, START, END).clear()
        unchanged_count(table, VIEW, 0, 3, START, END)
        self.assertEqual(table, example())
        self.assertEqual(len(changed_rows(table, VIEW, 0, 3, START, END)), 2)

    def test_by_name(self):
        named = {"high": END, "low": START, "at": 3, "since": 2, "view": VIEW, "table": example()}
        self.assertEqual(unchanged_count(**named), 1)
        self.assertEqual(changed_rows(**named), [((9, 1), (9,))])


if __name__ == "__main__":
    unittest.main()
