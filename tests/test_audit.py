import copy
import itertools
import random
import unittest

from steadypages import audit
from steadypages.audit import audit_copy, check_page
from steadypages.errors import UnknownVersion
from steadypages.pages import open_window, page
from steadypages.tables import Table
from histories import (
    ALL, END, START, VIEW, VIEWS, grown, plain_page_result, random_batch, some_marks, true_copy,
)
from samples import check_error

DOWN = (ALL, ((0, True),), (0,))


def row(value, row_id, *shown):
    """Return a delivered row of VIEW."""
    return ((value, row_id), shown or (value,))


def put(value, row_id, *shown):
    return ("put", *row(value, row_id, *shown))


def window(version, low=START, high=END, view=VIEW):
    return ("window", view, version, low, high)


class FilesTest(unittest.TestCase):

    def test_functions_are_defined_in_this_file(self):
        for name in ("audit_copy", "check_page"):
            self.assertEqual(getattr(audit, name).__module__, "steadypages.audit")


class AuditCopyTest(unittest.TestCase):

    def three_rows(self):
        table = Table(("size",))
        table.change_rows([("put", 1, (5,)), ("put", 2, (7,)), ("put", 10, (6,))])
        table.put_row(1, (9,))
        return table

    def test_true_copies(self):
        table = self.three_rows()
        for token, rows in (
            (window(0), {}),
            (window(1), {1: row(5, 1), 2: row(7, 2), 10: row(6, 10)}),
            (window(2), {1: row(9, 1), 2: row(7, 2), 10: row(6, 10)}),
            (window(1, START, ("before", (7, 2))), {1: row(5, 1), 10: row(6, 10)}),
            (window(2, START, ("before", (7, 2))), {10: row(6, 10)}),
            (window(1, END, END), {}),
            (("top", VIEW, 1, 0), {}),
            (("top", VIEW, 1, 2), {1: row(5, 1), 10: row(6, 10)}),
            (("top", VIEW, 2, 2), {2: row(7, 2), 10: row(6, 10)}),
            (("top", VIEW, 2, 10 ** 6), {1: row(9, 1), 2: row(7, 2), 10: row(6, 10)}),
        ):
            with self.subTest(token=token):
                self.assertEqual(audit_copy(table, token, rows), [])
                self.assertIs(type(audit_copy(table, token, rows)), list)

    def test_rows_that_are_missing(self):
        table = self.three_rows()
        self.assertEqual(audit_copy(table, window(1), {}), [
            (1, None, row(5, 1)), (2, None, row(7, 2)), (10, None, row(6, 10)),
        ])
        self.assertEqual(audit_copy(table, ("top", VIEW, 2, 1), {}), [(10, None, row(6, 10))])
        self.assertEqual(audit_copy(table, window(1), {1: row(5, 1), 10: row(6, 10)}), [(2, None, row(7, 2))])

    def test_rows_that_are_too_many(self):
        table = self.three_rows()
        self.assertEqual(audit_copy(table, window(0), {3: row(1, 3)}), [(3, row(1, 3), None)])
        self.assertEqual(audit_copy(table, ("top", VIEW, 1, 1), {2: row(7, 2), 1: row(5, 1)}), [(2, row(7, 2), None)])
        self.assertEqual(audit_copy(table, window(2, ("before", (6, 1)), ("before", (8, 1))), {
            10: row(6, 10), 2: row(7, 2), 1: row(9, 1),
        }), [(1, row(9, 1), None)])

    def test_rows_that_are_replaced(self):
        table = self.three_rows()
        rows = {10: row(6, 10), 2: row(8, 2), 1: row(5, 1)}
        self.assertEqual(audit_copy(table, window(2), rows), [(1, row(5, 1), row(9, 1)), (2, row(8, 2), row(7, 2))])
        self.assertEqual(audit_copy(table, window(1), rows), [(2, row(8, 2), row(7, 2))])
        self.assertEqual(audit_copy(table, window(1), {1: row(5, 1, 6), 2: row(7, 2), 10: row(6, 10)}), [
            (1, row(5, 1, 6), row(5, 1)),
        ])

    def test_ascending_ids(self):
        table = self.three_rows()
        found = audit_copy(table, window(1), {30: row(1, 30), 9: row(2, 9), 2: row(7, 2), 4: row(3, 4)})
        self.assertEqual([row_id for row_id, held, due in found], [1, 4, 9, 10, 30])

    def test_copies_of_tables_with_histories(self):
        for seed, view in itertools.product(range(4), VIEWS):
            maker = random.Random(seed)
            table = grown(seed)
            for version in (2, 5, 8):
                tokens = [("top", view, version, maker.randrange(5))]
                for low, high in itertools.combinations_with_replacement(some_marks(table, view)[::3], 2):
                    tokens.append(window(version, low, high, view))
                for token in tokens:
                    due = true_copy(table, token)
                    self.assertEqual(audit_copy(table, token, due), [])
                    held = {row_id: due[row_id] for row_id in due if maker.random() < 0.7}
                    held[maker.randrange(1, 9)] = ((*[0] * len(view[1]), 1), ())
                    self.assertEqual(audit_copy(table, token, held), [
                        (row_id, held.get(row_id), due.get(row_id))
                        for row_id in range(1, 10) if held.get(row_id) != due.get(row_id)
                    ])

    def test_versions_that_are_not_known(self):
        table = self.three_rows()
        for version in (3, 10 ** 60 - 1):
            check_error(self, UnknownVersion, "version", version, audit_copy, table, window(version), {})
            check_error(self, UnknownVersion, "version", version, audit_copy, table, ("top", VIEW, version, 0), {})
        table.fold_to([0])
        check_error(self, UnknownVersion, "version", 1, audit_copy, table, window(1), {})
        self.assertEqual(audit_copy(table, window(0), {}), [])

    def test_the_arguments_stay_as_they_were(self):
        table = self.three_rows()
        rows = {1: row(5, 1), 3: row(1, 3)}
        before = copy.deepcopy(rows)
        audit_copy(table, window(2), rows).clear()
        self.assertEqual(rows, before)
        self.assertEqual(list(rows), [1, 3])
        self.assertEqual(table, self.three_rows())

    def test_by_name(self):
        self.assertEqual(audit_copy(rows={}, token=window(0), table=self.three_rows()), [])


class CheckPageTest(unittest.TestCase):
    """The copy has the ids 1, 2 and 3 between the marks of the token."""

    rows = {1: row(5, 1), 2: row(6, 2), 3: row(7, 3)}
    low, high = ("before", (5, 1)), ("after", (7, 3))
    token = window(4, low, high)

    def check(self, due, debt, paged, new, back=False, rows=None, token=None):
        arguments = (self.rows if rows is None else rows, token or self.token, (debt, paged, new))
        before = copy.deepcopy(arguments)
        with self.subTest(debt=debt, paged=paged, new=new, back=back):
            found = check_page(*arguments, back=back)
            self.assertEqual(found, due)
            self.assertEqual(arguments, before)
            if not back:
                self.assertEqual(check_page(*arguments), due)

    def forward(self, high, version=4, low=None, view=VIEW):
        return window(version, low or self.low, high, view)

    def backward(self, low, version=4, high=None, view=VIEW):
        return window(version, low, high or self.high, view)

    def test_example(self):
        token = window(3, START, START)
        self.assertEqual(check_page({}, token, ([("drop", 1)], [], token)), "debt")

    def test_pages_that_are_right(self):
        for version in (4, 5, 10 ** 60 - 1):
            self.check(None, [], [], self.forward(self.high, version))
            self.check(None, [], [], self.backward(self.low, version), True)
        self.check(None, [], [], self.forward(END))
        self.check(None, [], [], self.backward(START), True)
        paged = [row(7, 4), row(8, 5)]
        self.check(None, [], paged, self.forward(END))
        self.check(None, [], paged, self.forward(("after", (8, 5))))
        paged = [row(4, 5), row(4, 4)]
        self.check(None, [], paged, self.backward(START), True)
        self.check(None, [], paged, self.backward(("before", (4, 4))), True)
        self.check(None, [("drop", 1), put(7, 2), put(6, 3), put(6, 4)], [row(8, 1)], self.forward(END, 5))

    def test_another_view(self):
        for view in ((ALL, ((0, True),), (0,)), (ALL, ((0, False),), ()), (("less", 0, 9), ((0, False),), (0,)), (ALL, (), (0,))):
            for back in (False, True):
                self.check("token", [], [], window(4, self.low, self.high, view), back)
                self.check("token", [], [], window(4, START, END, view), back)

    def test_another_mark_that_must_stay(self):
        for low in (START, ("before", (4, 1)), ("after", (5, 1)), ("before", (5, 2)), self.high):
            self.check("token", [], [], self.forward(self.high, low=low))
        for high in (END, ("after", (7, 4)), ("before", (7, 3)), ("after", (6, 3)), self.low):
            self.check("token", [], [], self.backward(self.low, high=high), True)

    def test_an_earlier_version(self):
        for version in (3, 0):
            self.check("token", [], [], self.forward(self.high, version))
            self.check("token", [], [], self.backward(self.low, version), True)

    def test_a_mark_that_moves_in(self):
        for high in (("before", (7, 3)), ("after", (7, 2)), ("after", (6, 4)), self.low):
            self.check("token", [], [], self.forward(high))
        for low in (("after", (5, 1)), ("before", (5, 2)), ("before", (6, 1)), self.high):
            self.check("token", [], [], self.backward(low), True)

    def test_the_other_direction(self):
        self.check("token", [], [], self.forward(END), True)
        self.check("token", [], [], self.backward(START))
        self.check("token", [], [row(8, 4)], self.forward(("after", (8, 4))), True)

    def test_order_of_the_debt(self):
        for back, new in ((False, self.forward(END)), (True, self.backward(START))):
            for debt in (
                [("drop", 2), ("drop", 1)], [("drop", 1), ("drop", 1)], [put(7, 1), ("drop", 1)], [("drop", 1), put(6, 1)],
                [put(6, 4), ("drop", 3)], [put(6, 1), put(7, 1)], [("drop", 1), ("drop", 3), ("drop", 2)],
                [put(6, 10), put(6, 9)],
            ):
                self.check("debt", debt, [], new, back)
            for debt in ([("drop", 1), ("drop", 2), put(6, 3)], [put(6, 1), ("drop", 3), put(6, 9), put(6, 10)]):
                self.check(None, debt, [], new, back)

    def test_dropped_ids(self):
        for back, new in ((False, self.forward(END)), (True, self.backward(START))):
            for row_id in (1, 2, 3):
                self.check(None, [("drop", row_id)], [], new, back)
            for row_id in (4, 10, 10 ** 6):
                self.check("debt", [("drop", row_id)], [], new, back)
                self.check("debt", [("drop", 1), ("drop", row_id)], [], new, back)
            self.check("debt", [("drop", 1)], [], window(4, START, END), back, {}, window(4, START, END))

    def test_rows_that_are_put_out_of_the_window(self):
        for back, new in ((False, self.forward(END)), (True, self.backward(START))):
            for correction in (put(5, 4), put(7, 3, 8), put(7, 2), put(6, 4), put(5, 2)):
                self.check(None, [correction], [], new, back)
            for correction in (put(4, 1), put(7, 4), put(8, 3), put(4, 4), put(None, 1), put("a", 1)):
                self.check("debt", [correction], [], new, back)
        # The marks are those of the old token.
        self.check("debt", [put(8, 4)], [], self.forward(END))
        self.check("debt", [put(4, 4)], [], self.backward(START), True)

    def test_rows_that_are_put_as_they_are(self):
        for back, new in ((False, self.forward(END)), (True, self.backward(START))):
            self.check("debt", [put(5, 1)], [], new, back)
            self.check("debt", [("drop", 1), put(6, 2)], [], new, back)
            self.check(None, [put(5, 1, 6)], [], new, back)
            self.check(None, [put(6, 1)], [], new, back)

    def test_order_of_the_rows(self):
        ascending = [row(7, 4), row(8, 5), row(8, 6)]
        self.check(None, [], ascending, self.forward(END))
        for paged in (ascending[::-1], [row(8, 5), row(7, 4)], [row(8, 6), row(8, 5)], [row(8, 5), row(8, 5)]):
            self.check("rows", [], paged, self.forward(END))
            self.check("rows", [], paged, self.forward(("after", paged[-1][0])))
        descending = [row(4, 5), row(4, 4), row(3, 6)]
        self.check(None, [], descending, self.backward(START), True)
        for paged in (descending[::-1], [row(3, 6), row(4, 4)], [row(4, 4), row(4, 5)], [row(4, 5), row(4, 5)]):
            self.check("rows", [], paged, self.backward(START), True)
            self.check("rows", [], paged, self.backward(("before", paged[-1][0])), True)

    def test_rows_that_are_not_between(self):
        for wrong in (row(7, 2), row(4, 4), row(5, 4), row(None, 4)):
            self.check("rows", [("drop", 2)], [wrong], self.forward(END))
        self.check("rows", [("drop", 3)], [row(7, 3)], self.forward(END))
        self.check(None, [], [row(7, 4)], self.forward(END))
        self.check("rows", [], [row(8, 4), row(9, 5)], self.forward(("after", (8, 4))))
        self.check("rows", [], [row(8, 4)], self.forward(("before", (8, 4))))
        self.check("rows", [], [row(8, 4)], self.forward(self.high))
        for wrong in (row(5, 2), row(9, 4), row(6, 4), row("a", 4)):
            self.check("rows", [("drop", 2)], [wrong], self.backward(START), True)
        self.check("rows", [("drop", 1)], [row(5, 1)], self.backward(START), True)
        self.check(None, [], [row(4, 9)], self.backward(START), True)
        self.check("rows", [], [row(4, 9), row(3, 8)], self.backward(("before", (4, 9))), True)
        self.check("rows", [], [row(4, 9)], self.backward(("after", (4, 9))), True)
        self.check("rows", [], [row(4, 9)], self.backward(self.low), True)

    def test_rows_whose_ids_are_in_the_copy(self):
        for back, new, values in ((False, self.forward(END), (8, 9)), (True, self.backward(START), (4, 3))):
            for row_id in (1, 2, 3):
                self.check("rows", [], [row(values[0], row_id)], new, back)
                self.check("rows", [], [row(values[0], 9), row(values[1], row_id)], new, back)
                self.check("rows", [put(6, row_id, "a")], [row(values[0], row_id)], new, back)
                self.check(None, [("drop", row_id)], [row(values[0], row_id)], new, back)
            self.check("rows", [put(6, 4)], [row(values[0], 4)], new, back)

    def test_marks(self):
        paged = [row(8, 4), row(9, 5)]
        for high in (("after", (9, 6)), ("after", (10, 5)), ("before", (10, 5)), ("before", (9, 6))):
            self.check("mark", [], paged, self.forward(high))
            self.check("mark", [], [], self.forward(high))
        self.check("mark", [], [], self.forward(("after", (7, 4))))
        self.check(None, [], paged, self.forward(("after", (9, 5))))
        self.check(None, [], paged, self.forward(END))
        paged = [row(4, 5), row(3, 4)]
        for low in (("before", (3, 3)), ("before", (2, 4)), ("after", (2, 4)), ("after", (3, 3))):
            self.check("mark", [], paged, self.backward(low), True)
            self.check("mark", [], [], self.backward(low), True)
        self.check("mark", [], [], self.backward(("before", (4, 9))), True)
        self.check(None, [], paged, self.backward(("before", (3, 4))), True)
        self.check(None, [], paged, self.backward(START), True)

    def test_marks_at_the_bounds(self):
        whole = window(4, START, END)
        self.check(None, [], [], whole, False, self.rows, whole)
        self.check(None, [], [], whole, True, self.rows, whole)
        self.check("rows", [], [row(8, 4)], whole, False, self.rows, whole)
        self.check("rows", [], [row(4, 4)], whole, True, self.rows, whole)
        empty = window(4, START, START)
        self.check(None, [], [row(8, 4)], window(4, START, ("after", (8, 4))), False, {}, empty)
        self.check("token", [], [row(8, 4)], window(4, START, ("after", (8, 4))), True, {}, empty)
        self.check(None, [], [], empty, True, {}, empty)

    def test_a_descending_view(self):
        token = window(4, ("before", (7, 3)), ("after", (5, 1)), DOWN)
        self.check(None, [put(6, 2, 9)], [row(5, 4), row(4, 5)], (*token[:4], ("after", (4, 5))), False, self.rows, token)
        self.check("rows", [], [row(4, 5), row(5, 4)], (*token[:4], END), False, self.rows, token)
        self.check("token", [], [], (*token[:4], ("after", (6, 1))), False, self.rows, token)
        self.check("debt", [put(8, 2)], [], token, False, self.rows, token)
        self.check(None, [], [row(8, 4), row(9, 5)], (*token[:3], START, token[4]), True, self.rows, token)
        self.check("rows", [], [row(9, 5), row(8, 4)], (*token[:3], START, token[4]), True, self.rows, token)

    def test_of_two_rules_the_first_one_is_named(self):
        broken = {
            "token": (self.forward(("after", (8, 4)), 3), self.backward(("before", (4, 4)), 3)),
            "mark": (self.forward(("after", (8, 4))), self.backward(("before", (4, 4)))),
        }
        for back in (False, True):
            debt, value = [("drop", 9)], (3 if back else 9)
            rows = [row(6, 7)]
            for new in (broken["token"][back],):
                self.check("token", debt, [], new, back)
                self.check("token", [], rows, new, back)
                self.check("token", [], [], new, back)
                self.check("token", debt, rows, new, back)
            new = broken["mark"][back]
            self.check("debt", debt, rows, new, back)
            self.check("debt", debt, [], new, back)
            self.check("rows", [], rows, new, back)
            self.check("rows", [], [row(value, 7)], new, back)
            self.check("mark", [], [], new, back)

    def test_every_page_of_a_table_is_accepted(self):
        for seed, view in itertools.product(range(6), VIEWS):
            table = grown(seed + 500)
            for version, (low, high) in itertools.product(
                (0, 3, 6, 8), itertools.combinations_with_replacement(some_marks(table, view)[::3], 2),
            ):
                token = window(version, low, high, view)
                rows = true_copy(table, token)
                for count, back in itertools.product((0, 1, 2, 9), (False, True)):
                    self.assertIsNone(check_page(rows, token, page(table, token, count, back=back), back=back))

    def test_pages_one_after_the_other(self):
        for seed, view in itertools.product(range(6), VIEWS):
            maker = random.Random(seed)
            table = grown(seed)
            token, rows = open_window(table, view, mark=maker.choice(some_marks(table, view))), {}
            for _ in range(12):
                table.change_rows(random_batch(maker))
                back = maker.random() < 0.5
                result = page(table, token, maker.randrange(4), back=back)
                self.assertIsNone(check_page(rows, token, result, back=back))
                rows, token = plain_page_result(rows, result), result[2]
                self.assertEqual(audit_copy(table, token, rows), [])

    def test_back_is_passed_by_name(self):
        with self.assertRaises(TypeError):
            check_page({}, self.token, ([], [], self.token), True)

    def test_by_name(self):
        self.assertIsNone(check_page(back=True, result=([], [], self.token), token=self.token, rows=self.rows))


if __name__ == "__main__":
    unittest.main()
