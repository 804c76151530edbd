import copy
import unittest

from steadypages import copies
from steadypages.changes import change_set
from steadypages.copies import apply_changes, apply_corrections, copy_of, corrections_of
from steadypages.errors import Mismatch
from steadypages.tables import Table
from samples import check_error

START, END = ("start",), ("end",)
VIEW = (("all",), ((0, False),), (0,))
A, B, C = ((5, 1), (5,)), ((6, 1), (6,)), ((7, 1), (7,))
D, E = ((5, 2), (5,)), ((9, 3), (9,))


class FilesTest(unittest.TestCase):

    def test_functions_are_defined_in_this_file(self):
        for name in ("apply_changes", "corrections_of", "apply_corrections", "copy_of"):
            self.assertEqual(getattr(copies, name).__module__, "steadypages.copies")


class ApplyChangesTest(unittest.TestCase):

    def test_ids_to_add_replace_and_remove(self):
        self.assertEqual(apply_changes({}, {}), {})
        self.assertEqual(apply_changes({1: A}, {}), {1: A})
        self.assertEqual(apply_changes({}, {1: (None, A)}), {1: A})
        self.assertEqual(apply_changes({1: A}, {1: (A, B)}), {1: B})
        self.assertEqual(apply_changes({1: A}, {1: (A, None)}), {})
        self.assertEqual(apply_changes({1: A, 3: E}, {3: (E, None), 2: (None, D), 1: (A, C)}), {1: C, 2: D})
        self.assertEqual(apply_changes({1: A, 3: E}, {2: (None, D)}), {1: A, 2: D, 3: E})

    def test_copies_that_do_not_fit(self):
        for rows, changes, row_id in (
            ({}, {1: (A, B)}, 1),
            ({}, {1: (A, None)}, 1),
            ({1: A}, {1: (None, B)}, 1),
            ({1: A}, {1: (None, A)}, 1),
            ({1: A}, {1: (B, A)}, 1),
            ({1: A}, {1: (B, None)}, 1),
            ({1: ((5, 1), (6,))}, {1: (A, B)}, 1),
            ({1: A, 2: D, 3: E}, {3: (None, E), 1: (A, B), 2: (None, D)}, 2),
            ({1: A, 2: D, 3: E}, {3: (None, E), 2: (D, None), 1: (B, A)}, 1),
            ({1: A, 2: D, 3: E}, {1: (A, None), 10: (E, None), 9: (E, None)}, 9),
        ):
            with self.subTest(rows=rows, changes=changes):
                before = copy.deepcopy((rows, changes))
                check_error(self, Mismatch, "row_id", row_id, apply_changes, rows, changes)
                self.assertEqual((rows, changes), before)

    def test_the_arguments_stay_as_they_were(self):
        rows, changes = {1: A, 3: E}, {1: (A, B), 2: (None, D), 3: (E, None)}
        before = copy.deepcopy((rows, changes))
        found = apply_changes(rows, changes)
        found[9] = None
        apply_changes(rows, {}).clear()
        self.assertEqual((rows, changes), before)

    def test_by_name(self):
        self.assertEqual(apply_changes(changes={1: (A, B)}, rows={1: A}), {1: B})


class CorrectionsOfTest(unittest.TestCase):

    def test_examples(self):
        table = Table(("size",))
        for row_id, value in ((1, 5), (2, 7), (1, 9)):
            table.put_row(row_id, (value,))
        self.assertEqual(
            corrections_of(change_set(table, VIEW, 1, 3, START, END)),
            [("put", (9, 1), (9,)), ("put", (7, 2), (7,))],
        )
        self.assertEqual(corrections_of(change_set(table, VIEW, 1, 3, START, ("after", (5, 1)))), [("drop", 1)])

    def test_corrections(self):
        self.assertEqual(corrections_of({}), [])
        self.assertEqual(corrections_of({1: (A, None)}), [("drop", 1)])
        self.assertEqual(corrections_of({1: (A, B)}), [("put", (6, 1), (6,))])
        self.assertEqual(corrections_of({1: (None, B)}), [("put", (6, 1), (6,))])
        self.assertEqual(corrections_of({1: (None, ((1,), ()))}), [("put", (1,), ())])
        self.assertEqual(corrections_of({4: (None, ((None, "a", 4), (1, "b")))}), [("put", (None, "a", 4), (1, "b"))])

    def test_ascending_ids(self):
        changes = {10: (E, None), 9: (None, ((1, 9), (1,))), 2: (D, None), 10 ** 6: (E, None), 1: (A, C)}
        self.assertEqual(corrections_of(changes), [
            ("put", (7, 1), (7,)), ("drop", 2), ("put", (1, 9), (1,)), ("drop", 10), ("drop", 10 ** 6),
        ])

    def test_the_argument_stays_as_it_was(self):
        changes = {3: (E, None), 1: (A, B)}
        before = copy.deepcopy(changes)
        corrections_of(changes).clear()
        self.assertEqual(changes, before)
        self.assertEqual(list(changes), [3, 1])

    def test_corrections_do_what_the_change_set_does(self):
        rows = {1: A, 3: E}
        changes = {1: (A, C), 2: (None, D), 3: (E, None)}
        self.assertEqual(apply_corrections(rows, corrections_of(changes)), apply_changes(rows, changes))

    def test_by_name(self):
        self.assertEqual(corrections_of(changes={1: (A, None)}), [("drop", 1)])


class ApplyCorrectionsTest(unittest.TestCase):

    def test_corrections(self):
        self.assertEqual(apply_corrections({}, []), {})
        self.assertEqual(apply_corrections({1: A}, []), {1: A})
        self.assertEqual(apply_corrections({1: A}, [("drop", 1)]), {})
        self.assertEqual(apply_corrections({1: A}, [("put", (6, 1), (6,))]), {1: B})
        self.assertEqual(apply_corrections({}, [("put", (6, 1), (6,))]), {1: B})
        self.assertEqual(apply_corrections({1: A}, [("put", (5, 2), (5,)), ("put", (9, 3), (9,))]), {1: A, 2: D, 3: E})
        self.assertEqual(apply_corrections({}, [("put", (4,), ())]), {4: ((4,), ())})

    def test_dropped_ids_that_are_not_there(self):
        self.assertEqual(apply_corrections({}, [("drop", 1)]), {})
        self.assertEqual(apply_corrections({1: A}, [("drop", 2), ("drop", 2), ("drop", 5)]), {1: A})

    def test_the_order_of_the_list_counts(self):
        put_b, put_c, drop = ("put", (6, 1), (6,)), ("put", (7, 1), (7,)), ("drop", 1)
        self.assertEqual(apply_corrections({1: A}, [put_b, put_c]), {1: C})
        self.assertEqual(apply_corrections({1: A}, [put_c, put_b]), {1: B})
        self.assertEqual(apply_corrections({1: A}, [put_b, drop]), {})
        self.assertEqual(apply_corrections({1: A}, [drop, put_b]), {1: B})
        self.assertEqual(apply_corrections({1: A}, [drop, put_b, drop, drop]), {})
        self.assertEqual(apply_corrections({3: E}, [("drop", 3), ("put", (5, 2), (5,)), ("drop", 1)]), {2: D})

    def test_the_arguments_stay_as_they_were(self):
        rows, corrections = {1: A, 3: E}, [("drop", 1), ("put", (5, 2), (5,)), ("put", (8, 3), (8,))]
        before = copy.deepcopy((rows, corrections))
        apply_corrections(rows, corrections).clear()
        apply_corrections(rows, []).clear()
        self.assertEqual((rows, corrections), before)

    def test_by_name(self):
        self.assertEqual(apply_corrections(corrections=[("drop", 1)], rows={1: A}), {})


class CopyOfTest(unittest.TestCase):

    def test_copies(self):
        self.assertEqual(copy_of([]), {})
        self.assertEqual(copy_of([A]), {1: A})
        self.assertEqual(copy_of([E, D, A]), {1: A, 2: D, 3: E})
        self.assertEqual(copy_of([((10 ** 6,), ())]), {10 ** 6: ((10 ** 6,), ())})
        self.assertEqual(copy_of([((None, "a", 7), (1,))]), {7: ((None, "a", 7), (1,))})

    def test_two_rows_of_one_id(self):
        self.assertEqual(copy_of([A, B]), {1: B})
        self.assertEqual(copy_of([B, A]), {1: A})
        self.assertEqual(copy_of([A, D, B, E, C]), {1: C, 2: D, 3: E})

    def test_the_argument_stays_as_it_was(self):
        delivered = [A, D, B]
        copy_of(delivered).clear()
        self.assertEqual(delivered, [A, D, B])

    def test_by_name(self):
        self.assertEqual(copy_of(delivered=[A]), {1: A})


if __name__ == "__main__":
    unittest.main()
