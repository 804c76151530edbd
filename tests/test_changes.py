import copy
import itertools
import unittest

from steadypages import changes
from steadypages.changes import change_set, compose, hide_columns, invert, restrict, window_rows
from steadypages.copies import apply_changes, copy_of
from steadypages.errors import Mismatch, UnknownVersion
from steadypages.tables import Table
from histories import ALL, END, START, VIEW, VIEWS, grown, plain_window, some_marks
from samples import any_values, check_error

# Delivered rows of VIEW.
A, B, C, D = ((5, 1), (5,)), ((6, 1), (6,)), ((7, 1), (7,)), ((5, 2), (5,))


def change_set_in_another_way(table, view, since, until, low, high):
    before = {row[0][-1]: row for row in plain_window(table, view, since, low, high)}
    after = {row[0][-1]: row for row in plain_window(table, view, until, low, high)}
    return {
        row_id: (before.get(row_id), after.get(row_id))
        for row_id in range(1, 20) if before.get(row_id) != after.get(row_id)
    }


class ChangesTest(unittest.TestCase):

    def small(self):
        """Return a table of one column with 4 versions."""
        table = Table(("size",))
        table.change_rows([("put", 1, (5,)), ("put", 2, (7,)), ("put", 3, (9,))])
        table.put_row(1, (8,))
        table.change_rows([("drop", 2), ("put", 4, (1,))])
        table.put_row(1, (5,))
        return table

    def check_versions(self, call):
        """Check the errors of a call with two versions."""
        for version in (-1, 2, 5, 10 ** 60 - 1, True, False, None, "1", "", (1,), [1], {1: 1}, (), [], {}):
            check_error(self, UnknownVersion, "version", version, call, version, 1)
            check_error(self, UnknownVersion, "version", version, call, 1, version)
            check_error(self, UnknownVersion, "version", version, call, version, None)
            check_error(self, UnknownVersion, "version", version, call, version, [99])
        for version in any_values():
            if version is True or version not in (0, 1):
                with self.subTest(version=version):
                    check_error(self, UnknownVersion, "version", version, call, version, -7)
                    check_error(self, UnknownVersion, "version", version, call, 4, version)


class WindowTest(ChangesTest):

    def test_functions_are_defined_in_this_file(self):
        for name in ("window_rows", "change_set", "invert", "compose", "restrict", "hide_columns"):
            self.assertEqual(getattr(changes, name).__module__, "steadypages.changes")

    def test_whole_windows(self):
        table = self.small()
        for version, due in enumerate((
            [],
            [((5, 1), (5,)), ((7, 2), (7,)), ((9, 3), (9,))],
            [((7, 2), (7,)), ((8, 1), (8,)), ((9, 3), (9,))],
            [((1, 4), (1,)), ((8, 1), (8,)), ((9, 3), (9,))],
            [((1, 4), (1,)), ((5, 1), (5,)), ((9, 3), (9,))],
        )):
            self.assertEqual(window_rows(table, VIEW, version, START, END), due)
            descending = (ALL, ((0, True),), (0,))
            self.assertEqual(window_rows(table, descending, version, START, END), due[::-1])

    def test_windows_between_marks(self):
        table = self.small()
        five, seven, nine = [((5, 1), (5,)), ((7, 2), (7,)), ((9, 3), (9,))]
        for low, high, due in (
            (START, START, []), (END, END, []), (START, ("before", (5, 1)), []), (START, ("after", (5, 1)), [five]),
            (("before", (5, 1)), ("after", (5, 1)), [five]), (("after", (5, 1)), END, [seven, nine]),
            (("before", (7, 2)), ("before", (7, 2)), []), (("after", (7, 2)), ("after", (7, 2)), []),
            (("after", (6, 1)), ("before", (9, 3)), [seven]), (("after", (7, 1)), ("after", (8, 9)), [seven]),
            (("before", (7, 3)), END, [nine]), (("after", (9, 3)), END, []), (START, ("before", (9, 4)), [five, seven, nine]),
        ):
            with self.subTest(low=low, high=high):
                self.assertEqual(window_rows(table, VIEW, 1, low, high), due)

    def test_the_id_decides(self):
        table = Table(("size",))
        table.change_rows([("put", row_id, (5,)) for row_id in (10, 9, 2, 1, 10 ** 6)])
        for order in ((), ((0, True),), ((0, False),)):
            rows = window_rows(table, (ALL, order, ()), 1, START, END)
            self.assertEqual([row[0][-1] for row in rows], [1, 2, 9, 10, 10 ** 6])

    def test_in_another_way(self):
        for seed in range(12):
            table = grown(seed)
            for view in VIEWS:
                marks = some_marks(table, view)
                for low, high in itertools.combinations_with_replacement(marks, 2):
                    version = (seed + len(repr(low)) + len(repr(high))) % 9
                    self.assertEqual(
                        window_rows(table, view, version, low, high),
                        plain_window(table, view, version, low, high),
                    )

    def test_versions_that_are_not_known(self):
        table = self.small()
        table.fold_to([0, 1, 3])
        for version in any_values():
            if version is True or version not in (0, 1):
                check_error(self, UnknownVersion, "version", version, window_rows, table, VIEW, version, START, END)
        check_error(self, UnknownVersion, "version", 2, window_rows, table, VIEW, 2, START, END)
        self.assertEqual(len(window_rows(table, VIEW, 3, START, END)), 3)

    def test_the_table_stays_as_it_was(self):
        table = self.small()
        rows = window_rows(table, VIEW, 4, START, END)
        rows[0] = None
        rows.clear()
        self.assertEqual(table, self.small())
        self.assertEqual(len(window_rows(table, VIEW, 4, START, END)), 3)

    def test_by_name(self):
        table = self.small()
        self.assertEqual(window_rows(high=END, low=START, version=0, view=VIEW, table=table), [])


class ChangeSetTest(ChangesTest):

    def test_examples(self):
        table = Table(("size",))
        for row_id, value in ((1, 5), (2, 7), (1, 9)):
            table.put_row(row_id, (value,))
        self.assertEqual(change_set(table, VIEW, 1, 3, START, END), {
            1: (((5, 1), (5,)), ((9, 1), (9,))), 2: (None, ((7, 2), (7,))),
        })
        self.assertEqual(change_set(table, VIEW, 1, 3, START, ("after", (5, 1))), {1: (((5, 1), (5,)), None)})

    def test_rows_that_come_and_go(self):
        table = self.small()
        self.assertEqual(change_set(table, VIEW, 2, 3, START, END), {
            2: (((7, 2), (7,)), None), 4: (None, ((1, 4), (1,))),
        })
        self.assertEqual(change_set(table, VIEW, 3, 2, START, END), {
            2: (None, ((7, 2), (7,))), 4: (((1, 4), (1,)), None),
        })

    def test_the_same_version_twice(self):
        table = self.small()
        for version in range(5):
            self.assertEqual(change_set(table, VIEW, version, version, START, END), {})

    def test_rows_that_move(self):
        table = self.small()
        five, eight = ((5, 1), (5,)), ((8, 1), (8,))
        self.assertEqual(change_set(table, VIEW, 1, 2, START, END), {1: (five, eight)})
        self.assertEqual(change_set(table, VIEW, 1, 2, START, ("before", (8, 1))), {1: (five, None)})
        self.assertEqual(change_set(table, VIEW, 1, 2, START, ("after", (8, 1))), {1: (five, eight)})
        self.assertEqual(change_set(table, VIEW, 1, 2, ("after", (5, 1)), END), {1: (None, eight)})
        self.assertEqual(change_set(table, VIEW, 1, 2, ("before", (5, 1)), END), {1: (five, eight)})
        self.assertEqual(change_set(table, VIEW, 1, 2, ("after", (5, 1)), ("before", (8, 1))), {})
        self.assertEqual(change_set(table, VIEW, 2, 1, START, ("before", (8, 1))), {1: (None, five)})

    def test_rows_that_are_changed_back(self):
        table = self.small()
        self.assertEqual(change_set(table, VIEW, 1, 4, START, END), {
            2: (((7, 2), (7,)), None), 4: (None, ((1, 4), (1,))),
        })
        self.assertEqual(table.changes_at(4)[1], 4)

    def test_columns_that_are_not_shown(self):
        table = Table(("size", "name", "color"))
        table.put_row(1, (5, "a", "red"))
        table.put_row(1, (5, "b", "red"))
        for view, due in (
            ((ALL, ((0, False),), (0, 2)), {}),
            ((ALL, (), ()), {}),
            ((ALL, (), (1,)), {1: (((1,), ("a",)), ((1,), ("b",)))}),
            ((ALL, ((1, False),), ()), {1: ((("a", 1), ()), (("b", 1), ()))}),
            ((("equal", 1, "a"), (), (0,)), {1: (((1,), (5,)), None)}),
            ((("equal", 1, "b"), (), (0,)), {1: (None, ((1,), (5,)))}),
        ):
            self.assertEqual(change_set(table, view, 1, 2, START, END), due)

    def test_empty_windows(self):
        table = self.small()
        for mark in (START, END, ("before", (8, 1)), ("after", (5, 1))):
            self.assertEqual(change_set(table, VIEW, 0, 3, mark, mark), {})

    def test_in_another_way(self):
        for seed in range(12):
            table = grown(seed + 100)
            if seed % 3 == 2:
                table.fold_to([1, 2, 5, 7])
            for view in VIEWS:
                marks = some_marks(table, view)
                for since, until in itertools.product(table.known_versions()[::2], table.known_versions()[1::2]):
                    for first, second in ((since, until), (until, since)):
                        mark = marks[(since + until) % len(marks)]
                        arguments = (table, view, first, second, mark, END)
                        self.assertEqual(change_set(*arguments), change_set_in_another_way(*arguments))
                        arguments = (table, view, first, second, START, mark)
                        self.assertEqual(change_set(*arguments), change_set_in_another_way(*arguments))

    def test_a_change_set_turns_one_window_into_the_other(self):
        for seed in range(5):
            table = grown(seed + 200)
            for view in VIEWS:
                before = copy_of(window_rows(table, view, 2, START, END))
                after = copy_of(window_rows(table, view, 7, START, END))
                self.assertEqual(apply_changes(before, change_set(table, view, 2, 7, START, END)), after)
                self.assertEqual(apply_changes(after, change_set(table, view, 7, 2, START, END)), before)

    def test_versions_that_are_not_known(self):
        table = self.small()
        table.fold_to([0, 1, 3])
        self.check_versions(lambda since, until: change_set(table, VIEW, since, until, START, END))

    def test_by_name(self):
        found = change_set(high=END, low=START, until=1, since=0, view=(ALL, (), ()), table=self.small())
        self.assertEqual(found, {1: (None, ((1,), ())), 2: (None, ((2,), ())), 3: (None, ((3,), ()))})


class InvertTest(unittest.TestCase):

    def test_invert(self):
        self.assertEqual(invert({}), {})
        self.assertEqual(invert({1: (A, B), 2: (None, D), 3: (C, None)}), {1: (B, A), 2: (D, None), 3: (None, C)})

    def test_the_inverse_of_a_change_set_of_a_table(self):
        for seed in range(10):
            table = grown(seed)
            for view in VIEWS:
                forward = change_set(table, view, 3, 8, START, END)
                self.assertEqual(invert(forward), change_set(table, view, 8, 3, START, END))
                self.assertEqual(invert(invert(forward)), forward)

    def test_the_argument_stays_as_it_was(self):
        given = {1: (A, B), 2: (None, D)}
        before = copy.deepcopy(given)
        found = invert(given)
        found.clear()
        self.assertEqual(given, before)
        self.assertIsNot(invert({}), invert({}))

    def test_by_name(self):
        self.assertEqual(invert(changes={1: (A, B)}), {1: (B, A)})


class ComposeTest(unittest.TestCase):

    def test_example(self):
        check_error(self, Mismatch, "row_id", 1, compose, {1: (None, A)}, {1: (None, B)})

    def test_ids_in_one_of_them(self):
        self.assertEqual(compose({}, {}), {})
        self.assertEqual(compose({1: (A, B)}, {}), {1: (A, B)})
        self.assertEqual(compose({}, {1: (A, B)}), {1: (A, B)})
        self.assertEqual(compose({1: (A, None)}, {2: (None, D)}), {1: (A, None), 2: (None, D)})
        self.assertEqual(compose({2: (None, D)}, {1: (A, None)}), {1: (A, None), 2: (None, D)})

    def test_ids_in_both(self):
        self.assertEqual(compose({1: (A, B)}, {1: (B, C)}), {1: (A, C)})
        self.assertEqual(compose({1: (None, B)}, {1: (B, C)}), {1: (None, C)})
        self.assertEqual(compose({1: (A, B)}, {1: (B, None)}), {1: (A, None)})
        self.assertEqual(compose({1: (A, None)}, {1: (None, C)}), {1: (A, C)})
        self.assertEqual(compose({1: (A, B), 2: (None, D)}, {1: (B, C), 3: (None, D)}), {
            1: (A, C), 2: (None, D), 3: (None, D),
        })

    def test_pairs_that_become_equal(self):
        self.assertEqual(compose({1: (A, B)}, {1: (B, A)}), {})
        self.assertEqual(compose({1: (None, A)}, {1: (A, None)}), {})
        self.assertEqual(compose({1: (A, None), 2: (None, D)}, {1: (None, A)}), {2: (None, D)})

    def test_change_sets_that_do_not_fit(self):
        for first, second, row_id in (
            ({1: (A, B)}, {1: (C, A)}, 1),
            ({1: (A, B)}, {1: (A, B)}, 1),
            ({1: (A, None)}, {1: (B, A)}, 1),
            ({1: (A, B)}, {1: (None, B)}, 1),
            ({7: (None, A), 3: (None, A), 5: (A, B)}, {5: (A, C), 7: (B, A), 3: (B, A)}, 3),
            ({7: (None, A), 3: (None, A), 5: (A, B)}, {5: (A, C), 7: (B, A), 3: (A, B)}, 5),
            ({10: (None, A), 9: (None, A)}, {10: (None, A), 9: (None, A), 1: (None, A)}, 9),
            ({1: (A, ((5, 1), (5, None)))}, {1: (((5, 1), (5, "")), A)}, 1),
        ):
            with self.subTest(first=first, second=second):
                before = copy.deepcopy((first, second))
                check_error(self, Mismatch, "row_id", row_id, compose, first, second)
                self.assertEqual((first, second), before)

    def test_change_sets_of_a_table(self):
        for seed in range(10):
            table = grown(seed)
            for view in VIEWS:
                for since, middle, until in itertools.permutations((1, 4, 8)):
                    first = change_set(table, view, since, middle, START, END)
                    second = change_set(table, view, middle, until, START, END)
                    self.assertEqual(compose(first, second), change_set(table, view, since, until, START, END))
                    self.assertEqual(compose(first, invert(first)), {})

    def test_the_arguments_stay_as_they_were(self):
        first, second = {1: (A, B), 2: (None, D)}, {1: (B, A), 3: (None, C)}
        before = copy.deepcopy((first, second))
        found = compose(first, second)
        found.clear()
        compose(first, {}).clear()
        compose({}, first)[9] = None
        self.assertEqual((first, second), before)

    def test_by_name(self):
        self.assertEqual(compose(second={1: (B, C)}, first={1: (A, B)}), {1: (A, C)})


class RestrictTest(unittest.TestCase):

    def test_restrict(self):
        given = {1: (A, C), 2: (None, D), 3: (((9, 3), (9,)), None)}
        for low, high, due in (
            (START, END, given),
            (START, START, {}), (END, END, {}), (START, ("before", (5, 1)), {}),
            (START, ("after", (5, 1)), {1: (A, None)}),
            (START, ("after", (5, 2)), {1: (A, None), 2: (None, D)}),
            (("after", (5, 1)), END, {1: (None, C), 2: (None, D), 3: (((9, 3), (9,)), None)}),
            (("after", (5, 2)), ("before", (7, 1)), {}),
            (("before", (7, 1)), ("after", (7, 1)), {1: (None, C)}),
            (("before", (9, 3)), END, {3: (((9, 3), (9,)), None)}),
            (("after", (9, 3)), END, {}),
        ):
            with self.subTest(low=low, high=high):
                self.assertEqual(restrict(VIEW, given, low, high), due)
        self.assertEqual(restrict(VIEW, {}, START, END), {})

    def test_rows_that_differ_in_shown_values_only(self):
        given = {1: (((5, 1), ("a",)), ((5, 1), ("b",)))}
        self.assertEqual(restrict(VIEW, given, START, END), given)
        self.assertEqual(restrict(VIEW, given, ("after", (5, 1)), END), {})

    def test_a_descending_view(self):
        view = (ALL, ((0, True),), (0,))
        self.assertEqual(restrict(view, {1: (A, C)}, START, ("before", (6, 1))), {1: (None, C)})
        self.assertEqual(restrict(view, {1: (A, C)}, ("after", (6, 1)), END), {1: (A, None)})

    def test_change_sets_of_a_table(self):
        for seed in range(6):
            table = grown(seed)
            for view in VIEWS:
                whole = change_set(table, view, 2, 8, START, END)
                for low, high in itertools.combinations_with_replacement(some_marks(table, view), 2):
                    due = change_set(table, view, 2, 8, low, high)
                    self.assertEqual(restrict(view, whole, low, high), due)

    def test_the_argument_stays_as_it_was(self):
        given = {1: (A, C), 2: (None, D)}
        before = copy.deepcopy(given)
        restrict(VIEW, given, START, END).clear()
        restrict(VIEW, given, START, ("after", (5, 1)))
        self.assertEqual(given, before)

    def test_by_name(self):
        found = restrict(high=("after", (5, 1)), low=START, changes={1: (A, C)}, view=VIEW)
        self.assertEqual(found, {1: (A, None)})


class HideTest(unittest.TestCase):

    given = {
        1: (((5, 1), (5, "a", None)), ((5, 1), (5, "b", None))),
        2: (None, ((5, 2), (1, 2, 3))),
        3: (((5, 3), (1, 2, 3)), None),
        4: (((5, 4), (1, 2, 3)), ((6, 4), (1, 2, 3))),
    }

    def test_positions(self):
        self.assertEqual(hide_columns(self.given, [0, 1, 2]), self.given)
        self.assertEqual(hide_columns(self.given, [0, 1]), {
            1: (((5, 1), (5, "a")), ((5, 1), (5, "b"))), 2: (None, ((5, 2), (1, 2))), 3: (((5, 3), (1, 2)), None),
            4: (((5, 4), (1, 2)), ((6, 4), (1, 2))),
        })
        self.assertEqual(hide_columns(self.given, [0, 2]), {
            2: (None, ((5, 2), (1, 3))), 3: (((5, 3), (1, 3)), None), 4: (((5, 4), (1, 3)), ((6, 4), (1, 3))),
        })
        self.assertEqual(hide_columns(self.given, [1]), {
            1: (((5, 1), ("a",)), ((5, 1), ("b",))), 2: (None, ((5, 2), (2,))), 3: (((5, 3), (2,)), None),
            4: (((5, 4), (2,)), ((6, 4), (2,))),
        })
        self.assertEqual(hide_columns(self.given, []), {
            2: (None, ((5, 2), ())), 3: (((5, 3), ()), None), 4: (((5, 4), ()), ((6, 4), ())),
        })
        self.assertEqual(hide_columns({}, [0]), {})
        self.assertEqual(hide_columns({}, []), {})

    def test_change_sets_of_a_table(self):
        for seed in range(8):
            table = grown(seed)
            for condition, order, _ in VIEWS:
                whole = change_set(table, (condition, order, (0, 1)), 1, 8, START, END)
                for places in ([], [0], [1], [0, 1]):
                    due = change_set(table, (condition, order, tuple(places)), 1, 8, START, END)
                    self.assertEqual(hide_columns(whole, places), due)

    def test_the_arguments_stay_as_they_were(self):
        places = [0, 2]
        before = copy.deepcopy(self.given)
        hide_columns(self.given, places).clear()
        hide_columns(self.given, [0, 1, 2]).clear()
        self.assertEqual((self.given, places), (before, [0, 2]))

    def test_by_name(self):
        self.assertEqual(hide_columns(places=[], changes={1: (A, None)}), {1: (((5, 1), ()), None)})


if __name__ == "__main__":
    unittest.main()
