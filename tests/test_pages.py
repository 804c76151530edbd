import copy
import itertools
import random
import unittest

from steadypages import pages
from steadypages.audit import audit_copy, check_page
from steadypages.copies import apply_corrections, copy_of
from steadypages.errors import BadCount, BadToken, UnknownVersion
from steadypages.pages import catch_up, debt_of, open_top, open_window, page
from steadypages.tables import Table
from steadypages.tokens import is_token
from histories import (
    ALL, END, START, VIEW, VIEWS, grown, plain_corrections, plain_page, plain_page_result, plain_window, random_batch,
    some_marks, true_copy,
)
from samples import any_values, check_error

WRONG_COUNTS = (
    -1, -2, -10 ** 60 + 1, True, False, None, "", "1", "1 ", "0", (), (1,), [], [1], {}, {1: 1}, ("start",),
)


def three_rows():
    """Return the table of the examples."""
    table = Table(("size",))
    for row_id, value in ((1, 5), (2, 7), (3, 9)):
        table.put_row(row_id, (value,))
    return table


def window(version, low=START, high=END, view=VIEW):
    return ("window", view, version, low, high)


class PagesTest(unittest.TestCase):

    def check_versions(self, call):
        """Check the errors of a call with versions that a table has not reached."""
        for version in (5, 6, 10 ** 9, 10 ** 60 - 1):
            with self.subTest(version=version):
                check_error(self, UnknownVersion, "version", version, call, version)


class FilesTest(unittest.TestCase):

    def test_functions_are_defined_in_this_file(self):
        for name in ("open_window", "open_top", "debt_of", "page", "catch_up"):
            self.assertEqual(getattr(pages, name).__module__, "steadypages.pages")


class OpenWindowTest(PagesTest):

    def test_at_the_start(self):
        self.assertEqual(open_window(Table(("size",)), VIEW), window(0, START, START))
        self.assertEqual(open_window(three_rows(), VIEW), window(3, START, START))

    def test_at_a_mark(self):
        for mark in (START, END, ("before", (7, 2)), ("after", (7, 2)), ("before", (None, 10 ** 6))):
            self.assertEqual(open_window(three_rows(), VIEW, mark=mark), window(3, mark, mark))

    def test_the_present_version(self):
        table = three_rows()
        table.put_row(1, (5,))
        self.assertEqual(open_window(table, VIEW)[2], 3)
        table.drop_row(1)
        table.forget_before(4)
        self.assertEqual(open_window(table, VIEW)[2], 4)

    def test_the_mark_is_passed_by_name(self):
        with self.assertRaises(TypeError):
            open_window(three_rows(), VIEW, START)

    def test_the_token_has_no_debt(self):
        for seed, view in enumerate(VIEWS):
            table = grown(seed)
            for mark in some_marks(table, view):
                token = open_window(table, view, mark=mark)
                self.assertTrue(is_token(token, 2))
                self.assertEqual(debt_of(table, token), [])
                table.change_rows([("put", 1, (seed, "z")), ("drop", 3)])
                self.assertEqual(debt_of(table, token), [])

    def test_by_name(self):
        self.assertEqual(open_window(mark=END, view=VIEW, table=three_rows()), window(3, END, END))


class OpenTopTest(PagesTest):

    def test_counts(self):
        table = three_rows()
        rows = [((5, 1), (5,)), ((7, 2), (7,)), ((9, 3), (9,))]
        for count in (0, 1, 2, 3, 4, 10, 10 ** 6):
            found = open_top(table, VIEW, count)
            self.assertEqual(found, (rows[:count], ("top", VIEW, 3, count)))
            self.assertIs(type(found), tuple)
            self.assertIs(type(found[0]), list)
            self.assertTrue(is_token(found[1], 1))

    def test_counts_beyond_the_greatest_raise_no_error(self):
        self.assertEqual(open_top(three_rows(), VIEW, 10 ** 6 + 1)[1], ("top", VIEW, 3, 10 ** 6 + 1))
        self.assertEqual(len(open_top(three_rows(), VIEW, 10 ** 6 + 1)[0]), 3)
        self.assertEqual(open_top(three_rows(), VIEW, -1), ([], ("top", VIEW, 3, -1)))

    def test_an_empty_table(self):
        for count in (0, 1, 10 ** 6):
            self.assertEqual(open_top(Table(("size",)), VIEW, count), ([], ("top", VIEW, 0, count)))

    def test_tables_with_histories(self):
        for seed, view in itertools.product(range(4), VIEWS):
            table = grown(seed)
            for count in range(8):
                rows, token = open_top(table, view, count)
                self.assertEqual(rows, plain_window(table, view, 8)[:count])
                self.assertEqual(token, ("top", view, 8, count))
                self.assertEqual(audit_copy(table, token, copy_of(rows)), [])

    def test_the_list_is_the_callers_own(self):
        table = three_rows()
        rows, token = open_top(table, VIEW, 2)
        rows.clear()
        self.assertEqual(open_top(table, VIEW, 2)[0], [((5, 1), (5,)), ((7, 2), (7,))])
        self.assertEqual(table, three_rows())

    def test_by_name(self):
        self.assertEqual(open_top(count=0, view=VIEW, table=three_rows()), ([], ("top", VIEW, 3, 0)))


class DebtTest(PagesTest):

    def moved(self, *values):
        """Return the example's table after giving the id 1 these values, one version for each."""
        table = three_rows()
        for value in values:
            table.put_row(1, (value,))
        return table

    def test_example(self):
        table = three_rows()
        rows, token = open_top(table, VIEW, 2)
        table.drop_row(1)
        self.assertEqual(debt_of(table, token), [("drop", 1), ("put", (9, 3), (9,))])

    def test_rows_that_come_and_go(self):
        table = three_rows()
        token = window(3)
        self.assertEqual(debt_of(table, token), [])
        table.drop_row(2)
        self.assertEqual(debt_of(table, token), [("drop", 2)])
        table.put_row(4, (1,))
        self.assertEqual(debt_of(table, token), [("drop", 2), ("put", (1, 4), (1,))])
        table.drop_row(4)
        self.assertEqual(debt_of(table, token), [("drop", 2)])
        table.put_row(2, (7,))
        self.assertEqual(debt_of(table, token), [])

    def test_rows_that_move(self):
        table = self.moved(8)
        for low, high, due in (
            (START, END, [("put", (8, 1), (8,))]),
            (START, ("after", (7, 2)), [("drop", 1)]),
            (START, ("before", (8, 1)), [("drop", 1)]),
            (START, ("after", (8, 1)), [("put", (8, 1), (8,))]),
            (("before", (5, 1)), ("after", (8, 1)), [("put", (8, 1), (8,))]),
            (("after", (5, 1)), END, [("put", (8, 1), (8,))]),
            (("after", (5, 1)), ("before", (8, 1)), []),
            (("after", (8, 1)), END, []),
            (START, ("before", (5, 1)), []),
            (START, START, []), (END, END, []), (("before", (8, 1)), ("before", (8, 1)), []),
        ):
            with self.subTest(low=low, high=high):
                self.assertEqual(debt_of(table, window(3, low, high)), due)

    def test_rows_that_are_changed_back(self):
        table = self.moved(8, 5)
        self.assertEqual(table.present(), 5)
        self.assertEqual(debt_of(table, window(3)), [])
        self.assertEqual(debt_of(table, window(4)), [("put", (5, 1), (5,))])
        self.assertEqual(debt_of(table, window(4, ("before", (8, 1)))), [("drop", 1)])

    def test_columns_that_are_not_shown(self):
        table = Table(("size", "name"))
        table.put_row(1, (5, "a"))
        table.put_row(1, (5, "b"))
        self.assertEqual(debt_of(table, window(1)), [])
        self.assertEqual(debt_of(table, ("top", VIEW, 1, 1)), [])
        shown = (ALL, ((0, False),), (0, 1))
        self.assertEqual(debt_of(table, window(1, view=shown)), [("put", (5, 1), (5, "b"))])
        self.assertEqual(debt_of(table, ("top", shown, 1, 1)), [("put", (5, 1), (5, "b"))])
        condition = (("equal", 1, "a"), (), ())
        self.assertEqual(debt_of(table, window(1, view=condition)), [("drop", 1)])
        self.assertEqual(debt_of(table, window(0, view=condition)), [])

    def test_every_known_version(self):
        table = self.moved(8, 5)
        for version, due in (
            (0, [("put", (5, 1), (5,)), ("put", (7, 2), (7,)), ("put", (9, 3), (9,))]),
            (1, [("put", (7, 2), (7,)), ("put", (9, 3), (9,))]), (2, [("put", (9, 3), (9,))]),
            (3, []), (4, [("put", (5, 1), (5,))]), (5, []),
        ):
            self.assertEqual(debt_of(table, window(version)), due)
            self.assertEqual(debt_of(table, ("top", VIEW, version, 10)), due)

    def test_tops_that_lose_and_gain_rows_at_their_end(self):
        table = three_rows()
        table.put_row(4, (6,))
        self.assertEqual(debt_of(table, ("top", VIEW, 3, 1)), [])
        self.assertEqual(debt_of(table, ("top", VIEW, 3, 2)), [("drop", 2), ("put", (6, 4), (6,))])
        self.assertEqual(debt_of(table, ("top", VIEW, 3, 3)), [("drop", 3), ("put", (6, 4), (6,))])
        self.assertEqual(debt_of(table, ("top", VIEW, 3, 4)), [("put", (6, 4), (6,))])
        table.change_rows([("drop", 1), ("drop", 4)])
        self.assertEqual(debt_of(table, ("top", VIEW, 3, 0)), [])
        self.assertEqual(debt_of(table, ("top", VIEW, 3, 1)), [("drop", 1), ("put", (7, 2), (7,))])
        self.assertEqual(debt_of(table, ("top", VIEW, 3, 2)), [("drop", 1), ("put", (9, 3), (9,))])
        self.assertEqual(debt_of(table, ("top", VIEW, 3, 3)), [("drop", 1)])
        self.assertEqual(debt_of(table, ("top", VIEW, 4, 3)), [("drop", 1), ("put", (9, 3), (9,)), ("drop", 4)])

    def test_ascending_ids(self):
        table = Table(("size",))
        table.change_rows([("put", row_id, (30 - row_id,)) for row_id in (10, 9, 2, 11, 1)])
        table.change_rows([("put", row_id, (row_id,)) for row_id in (9, 10, 1)] + [("drop", 11), ("put", 3, (0,))])
        self.assertEqual(debt_of(table, window(1)), [
            ("put", (1, 1), (1,)), ("put", (0, 3), (0,)), ("put", (9, 9), (9,)), ("put", (10, 10), (10,)), ("drop", 11),
        ])

    def test_in_another_way(self):
        for seed in range(8):
            table = grown(seed + 300)
            if seed % 3 == 2:
                table.fold_to([1, 2, 5, 7])
            if seed % 3 == 1:
                table.forget_before(3)
            for view, version in itertools.product(VIEWS, table.known_versions()):
                tokens = [("top", view, version, count) for count in range(7)]
                for low, high in itertools.combinations_with_replacement(some_marks(table, view)[::2], 2):
                    tokens.append(window(version, low, high, view))
                for token in tokens:
                    before = true_copy(table, token)
                    after = true_copy(table, (*token[:2], 8, *token[3:]))
                    debt = debt_of(table, token)
                    self.assertEqual(debt, plain_corrections(before, after))
                    self.assertEqual(apply_corrections(before, debt), after)

    def test_versions_that_are_not_known(self):
        table = three_rows()
        for make in (window, lambda version: ("top", VIEW, version, 1)):
            self.check_versions(lambda version: debt_of(table, make(version)))
        table.fold_to([1])
        for version in (0, 2):
            check_error(self, UnknownVersion, "version", version, debt_of, table, window(version))
            check_error(self, UnknownVersion, "version", version, debt_of, table, ("top", VIEW, version, 0))
        self.assertEqual(len(debt_of(table, window(1))), 2)
        table.forget_before(3)
        check_error(self, UnknownVersion, "version", 1, debt_of, table, window(1, START, START))
        self.assertEqual(debt_of(table, window(3)), [])

    def test_a_version_that_has_been_forgotten_stays_unknown(self):
        table = three_rows()
        table.forget_before(3)
        table.put_row(1, (6,))
        check_error(self, UnknownVersion, "version", 2, debt_of, table, window(2))
        self.assertEqual(debt_of(table, window(3)), [("put", (6, 1), (6,))])

    def test_the_table_stays_as_it_was(self):
        table = self.moved(8)
        debt_of(table, window(0)).clear()
        self.assertEqual(table, self.moved(8))
        self.assertEqual(len(debt_of(table, window(0))), 3)

    def test_by_name(self):
        self.assertEqual(debt_of(token=window(3), table=three_rows()), [])


class PageTest(PagesTest):

    def test_examples(self):
        table = three_rows()
        debt, rows, token = page(table, open_window(table, VIEW), 2)
        self.assertEqual((debt, rows, token), (
            [], [((5, 1), (5,)), ((7, 2), (7,))], window(3, START, ("after", (7, 2))),
        ))
        table.put_row(1, (8,))
        debt, rows, token = page(table, token, 2)
        self.assertEqual((debt, rows), ([("drop", 1)], [((8, 1), (8,)), ((9, 3), (9,))]))
        self.assertEqual(token, window(4, START, ("after", (9, 3))))

    def test_kinds_of_values(self):
        result = page(three_rows(), window(1, START, START), 2)
        self.assertEqual([type(part) for part in (result, *result)], [tuple, list, list, tuple])

    def test_forward_with_every_count(self):
        table = three_rows()
        rows = [((5, 1), (5,)), ((7, 2), (7,)), ((9, 3), (9,))]
        for count, high in (
            (0, START), (1, ("after", (5, 1))), (2, ("after", (7, 2))), (3, ("after", (9, 3))), (4, END), (10 ** 60 - 1, END),
        ):
            with self.subTest(count=count):
                self.assertEqual(page(table, open_window(table, VIEW), count), ([], rows[:count], window(3, START, high)))

    def test_backward_with_every_count(self):
        table = three_rows()
        rows = [((9, 3), (9,)), ((7, 2), (7,)), ((5, 1), (5,))]
        token = open_window(table, VIEW, mark=END)
        for count, low in (
            (0, END), (1, ("before", (9, 3))), (2, ("before", (7, 2))), (3, ("before", (5, 1))), (4, START), (10 ** 60 - 1, START),
        ):
            with self.subTest(count=count):
                self.assertEqual(page(table, token, count, back=True), ([], rows[:count], window(3, low, END)))

    def test_between(self):
        table = three_rows()
        token = window(3, ("before", (7, 2)), ("after", (7, 2)))
        for count, back, rows, low, high in (
            (0, False, [], token[3], token[4]),
            (0, True, [], token[3], token[4]),
            (1, False, [((9, 3), (9,))], token[3], ("after", (9, 3))),
            (1, True, [((5, 1), (5,))], ("before", (5, 1)), token[4]),
            (2, False, [((9, 3), (9,))], token[3], END),
            (2, True, [((5, 1), (5,))], START, token[4]),
        ):
            self.assertEqual(page(table, token, count, back=back), ([], rows, window(3, low, high)))

    def test_nothing_is_left(self):
        table = three_rows()
        for high, new in ((END, END), (("after", (9, 3)), END), (("before", (10, 1)), END)):
            self.assertEqual(page(table, window(3, START, high), 1), ([], [], window(3, START, new)))
            self.assertEqual(page(table, window(3, START, high), 0), ([], [], window(3, START, high)))
        for low in (START, ("before", (5, 1)), ("after", (4, 1))):
            self.assertEqual(page(table, window(3, low, END), 1, back=True), ([], [], window(3, START, END)))
            self.assertEqual(page(table, window(3, low, END), 0, back=True), ([], [], window(3, low, END)))

    def test_empty_tables(self):
        table = Table(("size",))
        self.assertEqual(page(table, open_window(table, VIEW), 0), ([], [], window(0, START, START)))
        self.assertEqual(page(table, open_window(table, VIEW), 1), ([], [], window(0, START, END)))
        self.assertEqual(page(table, open_window(table, VIEW, mark=END), 1, back=True), ([], [], window(0, START, END)))

    def test_edits_between_the_pages(self):
        table = three_rows()
        debt, rows, token = page(table, open_window(table, VIEW), 1)
        table.change_rows([("put", 1, (10,)), ("put", 4, (4,)), ("put", 5, (6,)), ("drop", 2)])
        self.assertEqual(page(table, token, 2), (
            [("drop", 1), ("put", (4, 4), (4,))], [((6, 5), (6,)), ((9, 3), (9,))], window(4, START, ("after", (9, 3))),
        ))
        self.assertEqual(page(table, token, 3), (
            [("drop", 1), ("put", (4, 4), (4,))], [((6, 5), (6,)), ((9, 3), (9,)), ((10, 1), (10,))],
            window(4, START, ("after", (10, 1))),
        ))

    def test_a_row_that_has_moved_before_the_low_mark(self):
        table = three_rows()
        debt, rows, token = page(table, open_window(table, VIEW, mark=END), 2, back=True)
        self.assertEqual(rows, [((9, 3), (9,)), ((7, 2), (7,))])
        table.put_row(3, (6,))
        self.assertEqual(page(table, token, 2, back=True), (
            [("drop", 3)], [((6, 3), (6,)), ((5, 1), (5,))], window(4, ("before", (5, 1)), END),
        ))

    def test_tokens_that_are_used_again(self):
        table = three_rows()
        first = open_window(table, VIEW)
        for _ in range(2):
            debt, rows, second = page(table, first, 1)
            self.assertEqual((debt, rows, second), ([], [((5, 1), (5,))], window(3, START, ("after", (5, 1)))))
        table.drop_row(1)
        for _ in range(2):
            self.assertEqual(page(table, first, 1), ([], [((7, 2), (7,))], window(4, START, ("after", (7, 2)))))
            self.assertEqual(page(table, second, 1), ([("drop", 1)], [((7, 2), (7,))], window(4, START, ("after", (7, 2)))))

    def test_in_another_way(self):
        for seed in range(6):
            table = grown(seed + 400)
            for view, version in itertools.product(VIEWS, (0, 3, 6, 8)):
                for low, high in itertools.combinations_with_replacement(some_marks(table, view)[::2], 2):
                    token = window(version, low, high, view)
                    for count, back in itertools.product((0, 1, 2, 7), (False, True)):
                        result = page(table, token, count, back=back)
                        self.assertEqual(result, plain_page(table, token, count, back))
                        self.assertTrue(is_token(result[2], 2))

    def test_top_tokens(self):
        table = three_rows()
        for token in (("top", VIEW, 3, 2), ("top", VIEW, 99, 0)):
            for count in (0, 1, -1, None, True, [], "x"):
                check_error(self, BadToken, "token", token, page, table, token, count)
                check_error(self, BadToken, "token", token, page, table, token, count, back=True)

    def test_wrong_counts(self):
        table = three_rows()
        wrong = [*WRONG_COUNTS]
        wrong += [value for value in any_values() if not (type(value) is int and value >= 0)]
        for count, version in itertools.product(wrong, (3, 99)):
            with self.subTest(count=count, version=version):
                check_error(self, BadCount, "count", count, page, table, window(version), count)
                check_error(self, BadCount, "count", count, page, table, window(version), count, back=True)
        self.assertEqual(table, three_rows())

    def test_versions_that_are_not_known(self):
        table = three_rows()
        for count, back in itertools.product((0, 1, 10 ** 60 - 1), (False, True)):
            self.check_versions(lambda version: page(table, window(version), count, back=back))
            self.check_versions(lambda version: page(table, window(version, END, END), count, back=back))
        table.fold_to([2])
        check_error(self, UnknownVersion, "version", 1, page, table, window(1), 1)
        self.assertEqual(page(table, window(2), 1), ([("put", (9, 3), (9,))], [], window(3)))

    def test_the_table_stays_as_it_was_and_the_lists_are_the_callers_own(self):
        table = three_rows()
        token = window(2, START, ("after", (5, 1)))
        first = page(table, token, 3)
        kept = copy.deepcopy(first)
        first[0].append(None)
        first[1].clear()
        self.assertEqual(page(table, token, 3), kept)
        self.assertEqual(table, three_rows())

    def test_back_is_passed_by_name(self):
        with self.assertRaises(TypeError):
            page(three_rows(), window(3), 1, True)

    def test_by_name(self):
        self.assertEqual(page(back=True, count=0, token=window(3), table=three_rows()), ([], [], window(3)))


class CatchUpTest(PagesTest):

    def test_window_tokens(self):
        table = three_rows()
        token = window(2, START, ("after", (7, 2)))
        self.assertEqual(catch_up(table, token), ([], window(3, START, ("after", (7, 2)))))
        table.put_row(1, (8,))
        result = catch_up(table, token)
        self.assertEqual(result, ([("drop", 1)], window(4, START, ("after", (7, 2)))))
        self.assertEqual([type(part) for part in (result, *result)], [tuple, list, tuple])

    def test_top_tokens(self):
        table = three_rows()
        self.assertEqual(catch_up(table, ("top", VIEW, 2, 2)), ([], ("top", VIEW, 3, 2)))
        self.assertEqual(catch_up(table, ("top", VIEW, 2, 3)), ([("put", (9, 3), (9,))], ("top", VIEW, 3, 3)))
        self.assertEqual(catch_up(table, ("top", VIEW, 3, 3)), ([], ("top", VIEW, 3, 3)))
        table.drop_row(1)
        self.assertEqual(catch_up(table, ("top", VIEW, 3, 1)), ([("drop", 1), ("put", (7, 2), (7,))], ("top", VIEW, 4, 1)))

    def test_is_a_page_with_the_count_0(self):
        for seed, view in itertools.product(range(3), VIEWS):
            table = grown(seed)
            for low, high in itertools.combinations_with_replacement(some_marks(table, view)[::3], 2):
                for version in (0, 4, 8):
                    token = window(version, low, high, view)
                    for back in (False, True):
                        debt, rows, new = page(table, token, 0, back=back)
                        self.assertEqual(rows, [])
                        self.assertEqual(catch_up(table, token), (debt, new))

    def test_versions_that_are_not_known(self):
        table = three_rows()
        self.check_versions(lambda version: catch_up(table, window(version)))
        self.check_versions(lambda version: catch_up(table, ("top", VIEW, version, 1)))

    def test_the_list_is_the_callers_own(self):
        table = three_rows()
        catch_up(table, window(0))[0].clear()
        self.assertEqual(len(catch_up(table, window(0))[0]), 3)

    def test_by_name(self):
        self.assertEqual(catch_up(token=window(3), table=three_rows()), ([], window(3)))


class ReadingTest(PagesTest):

    def read_all(self, table, view, count, back):
        """Read a list to its end without edits; return all rows in the order in which they came."""
        token = open_window(table, view, mark=END if back else START)
        gathered = []
        while token[3] != START or token[4] != END:
            debt, rows, token = page(table, token, count, back=back)
            self.assertEqual(debt, [])
            gathered.extend(rows)
        return gathered

    def test_a_list_that_is_read_to_its_end_gives_every_row_once_in_order(self):
        for seed, view in itertools.product(range(5), VIEWS):
            table = grown(seed, 20, 12)
            due = plain_window(table, view, 20)
            for count in (1, 2, 3, 5, 12, 100):
                self.assertEqual(self.read_all(table, view, count, False), due)
                self.assertEqual(self.read_all(table, view, count, True), due[::-1])

    def test_with_edits_the_copy_at_the_end_is_the_present_list(self):
        for seed, view in itertools.product(range(12), VIEWS):
            maker = random.Random(seed)
            table = grown(seed, 10, 10)
            back = seed % 2 == 1
            token, rows = open_window(table, view, mark=END if back else START), {}
            while token[3] != START or token[4] != END:
                table.change_rows(random_batch(maker, 10))
                result = page(table, token, maker.randrange(1, 4), back=back)
                self.assertIsNone(check_page(rows, token, result, back=back))
                rows, token = plain_page_result(rows, result), result[2]
                self.assertEqual(rows, true_copy(table, token))
            self.assertEqual(rows, {row[0][-1]: row for row in plain_window(table, view, table.present())})


if __name__ == "__main__":
    unittest.main()
