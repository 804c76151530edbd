import copy
import itertools
import random
import unittest

from steadypages import views
from steadypages.values import compare_values
from steadypages.views import compare_keys, delivered_row, is_view, key_of
from samples import any_values, check_answers_for_any_value, nested_list, nested_tuple

ALL = ("all",)
VIEW = (ALL, ((0, True),), (1,))
# In the order of values; no two are equal.
ORDERED = [None, -10 ** 9, -2, -1, 0, 1, 2, 10, 10 ** 9, "", " ", "!", "1", "10", "2", "A", "a", "ab", "abc", "b", "~"]


def view_with(condition=ALL, order=(), shown=()):
    return (condition, order, shown)


class IsViewTest(unittest.TestCase):

    def check_all(self, due, items, width=3):
        for item in items:
            with self.subTest(item=item, width=width):
                self.assertIs(is_view(item, width), due)

    def check_yes(self, items, width=3):
        self.check_all(True, items, width)

    def check_no(self, items, width=3):
        self.check_all(False, items, width)

    def test_functions_are_defined_in_this_file(self):
        for name in ("is_view", "key_of", "compare_keys", "delivered_row"):
            self.assertEqual(getattr(views, name).__module__, "steadypages.views")

    def test_number_of_pairs(self):
        pairs = ((0, False), (1, True), (2, False), (3, True), (4, False), (5, True))
        self.check_yes([view_with(order=pairs[:many]) for many in range(5)], 6)
        self.check_no([view_with(order=pairs[:5]), view_with(order=pairs)], 6)
        self.check_yes([view_with(order=pairs[2:6])], 6)

    def test_a_column_twice(self):
        self.check_no([view_with(order=order) for order in (
            ((0, False), (0, False)), ((0, False), (0, True)), ((0, True), (1, True), (0, True)),
            ((1, True), (2, True), (0, False), (2, True)),
        )])
        self.check_yes([view_with(order=((2, True), (0, True), (1, False)))])

    def test_columns_of_the_order(self):
        for width in (1, 2, 6):
            self.check_yes([view_with(order=((column, False),)) for column in (0, width - 1)], width)
            self.check_no([view_with(order=((column, False),)) for column in (
                -1, -width, width, width + 1, True, False, None, "0", "size", 10 ** 60 - 1, (0,), [0], {}, [], {0: 1},
            )], width)
        self.check_no([view_with(order=((0, False), (column, False))) for column in (-1, 3, True, None, [], {})])

    def test_the_second_of_a_pair(self):
        self.check_yes([view_with(order=((0, True),)), view_with(order=((0, False),))])
        self.check_no([view_with(order=((0, descending),)) for descending in (
            0, 1, -1, None, "", "True", (), (True,), [], [True], {},
        )])

    def test_pairs_of_another_form(self):
        self.check_no([view_with(order=order) for order in (
            (0,), (0, False), ((),), ((0,),), ((0, False, False),), ([0, False],), [(0, False)], [[0, False]], [],
            {}, {0: False}, None, "", 0, True, ((0, False), None), ((0, False), 1), (({}, {}),), ((False, 0),),
        )])

    def test_shown_columns(self):
        self.check_yes([view_with(shown=shown) for shown in (
            (), (0,), (1,), (2,), (0, 1), (0, 2), (1, 2), (0, 1, 2),
        )])
        self.check_no([view_with(shown=shown) for shown in (
            (1, 0), (2, 0), (0, 2, 1), (0, 0), (1, 1), (0, 1, 1), (0, 1, 0), (2, 1, 0),
        )])
        self.check_yes([view_with(shown=(0, 1, 2, 3, 4, 5))], 6)

    def test_shown_columns_of_another_form(self):
        self.check_no([view_with(shown=shown) for shown in (
            (-1,), (-1, 0), (3,), (0, 3), (0, 10 ** 60 - 1), (True,), (False, 1), (0, True), (None,), ("size",), ((0,),),
            ([],), ({},), (0, []), [0], [0, 1], [], {}, {0: 1}, None, "", "0", 0, True,
        )])

    def test_conditions(self):
        self.check_yes([
            view_with(("equal", 2, 1)), view_with(("not", ("less", 2, "a"))),
            view_with(("and", ("starts", 0, "a"), ("one_of", 2, (1, None)))),
        ])
        self.check_no([
            view_with(("equal", 3, 1)), view_with(("equal", -1, 1)), view_with(("equal", True, 1)),
            view_with(("not", ("less", 3, "a"))), view_with(("or", ALL, ("starts", 3, "a"))),
            view_with(()), view_with(None), view_with("all"), view_with(["all"]), view_with(("none",)),
            view_with(("equal", 0, True)),
        ])
        self.check_no([view_with(("equal", 1, 1)), view_with(ALL, ((1, True),)), view_with(ALL, (), (1,))], 1)
        self.check_yes([view_with(("equal", 1, 1), ((1, True),), (1,))], 2)

    def test_depth_of_the_condition(self):
        condition = ALL
        for _ in range(7):
            condition = ("not", condition)
        self.check_yes([view_with(condition)])
        self.check_no([view_with(("not", condition))])

    def test_lists_for_tuples(self):
        self.check_no([[ALL, (), ()], [ALL, ((0, True),), (1,)], (ALL, [], ()), (ALL, (), []), (["all"], (), ())])

    def test_parts_missing_and_too_many(self):
        self.check_no([
            (), (ALL,), (ALL, ()), ((), ()), (ALL, (), (), ()), (ALL, (), (), None), ALL, ((), (), ()),
            ((), ALL, ()), ((), (), ALL),
        ])

    def test_any_value_is_answered(self):
        check_answers_for_any_value(self, lambda value: is_view(value, 3))
        check_answers_for_any_value(self, lambda value: is_view((value, (), ()), 3))
        check_answers_for_any_value(self, lambda value: is_view((ALL, value, ()), 3))
        check_answers_for_any_value(self, lambda value: is_view((ALL, (), value), 3))
        check_answers_for_any_value(self, lambda value: is_view((ALL, (value,), ()), 3))
        check_answers_for_any_value(self, lambda value: is_view((ALL, ((value, True),), ()), 3))
        check_answers_for_any_value(self, lambda value: is_view((ALL, ((0, True), (value, True)), ()), 3))
        check_answers_for_any_value(self, lambda value: is_view((ALL, ((0, value),), ()), 3))
        check_answers_for_any_value(self, lambda value: is_view((ALL, (), (value,)), 3))
        check_answers_for_any_value(self, lambda value: is_view((ALL, (), (0, value)), 3))

    def test_other_values(self):
        self.check_no(any_values())
        self.check_no([(ALL, nested_tuple(0, 28), ()), (ALL, (), nested_list(0, 28)), (nested_tuple(ALL, 28), (), ())])

    def test_by_name(self):
        self.assertIs(is_view(width=2, value=VIEW), True)


class KeyTest(unittest.TestCase):

    def test_examples(self):
        self.assertEqual(key_of(VIEW, 7, (5, "a")), (5, 7))
        self.assertEqual(delivered_row(VIEW, 7, (5, "a")), ((5, 7), ("a",)))

    def test_orders_of_0_to_4_columns(self):
        values = (5, "a", None, -3)
        for many in range(5):
            for columns in itertools.permutations(range(4), many):
                for descending in ((False,) * many, (True,) * many, (True, False, True, False)[:many]):
                    view = (ALL, tuple(zip(columns, descending)), (0, 3))
                    key = tuple(values[column] for column in columns) + (9,)
                    self.assertEqual(key_of(view, 9, values), key)
                    self.assertEqual(delivered_row(view, 9, values), (key, (5, -3)))

    def test_shown_columns(self):
        values = ("x", None, 3)
        for many in range(4):
            for shown in itertools.combinations(range(3), many):
                due = tuple(values[column] for column in shown)
                self.assertEqual(delivered_row((ALL, (), shown), 1, values), ((1,), due))

    def test_rows_that_do_not_satisfy_the_condition(self):
        view = (("less", 0, 5), ((1, False),), (0,))
        self.assertEqual(delivered_row(view, 1, (4, "a")), (("a", 1), (4,)))
        self.assertEqual(delivered_row(view, 1, (None, "a")), (("a", 1), (None,)))
        self.assertIsNone(delivered_row(view, 1, (5, "a")))
        self.assertIsNone(delivered_row(view, 10 ** 6, ("", None)))
        self.assertEqual(key_of(view, 1, (4, "a")), ("a", 1))
        self.assertEqual(key_of(view, 1, (5, "a")), ("a", 1))
        never = (("not", ALL), (), ())
        self.assertIsNone(delivered_row(never, 1, (5, "a")))
        self.assertEqual(key_of(never, 1, (5, "a")), (1,))

    def test_new_tuples(self):
        values = (5, "a")
        key, shown = delivered_row((ALL, ((0, False), (1, False)), (0, 1)), 1, values)
        self.assertEqual(shown, values)
        self.assertIsNot(shown, values)
        self.assertIs(type(key), tuple)

    def test_by_name(self):
        self.assertEqual(key_of(values=(5, "a"), row_id=7, view=VIEW), (5, 7))
        self.assertEqual(delivered_row(values=(5, "a"), row_id=7, view=VIEW), ((5, 7), ("a",)))


class CompareKeysTest(unittest.TestCase):

    def check(self, view, first, second, due):
        with self.subTest(view=view, first=first, second=second):
            self.assertEqual(compare_keys(view, first, second), due)
            self.assertEqual(compare_keys(view, second, first), -due)
            self.assertIs(type(compare_keys(view, first, second)), int)

    def test_example(self):
        self.check(VIEW, (5, 7), (4, 9), -1)

    def test_values_of_all_kinds(self):
        ascending, descending = (ALL, ((0, False),), ()), (ALL, ((0, True),), ())
        for first, second in itertools.product(ORDERED, ORDERED):
            order = (ORDERED.index(first) > ORDERED.index(second)) - (ORDERED.index(first) < ORDERED.index(second))
            self.assertEqual(order, compare_values(first, second))
            for first_id, second_id in ((1, 2), (2, 1), (3, 3)):
                by_id = (first_id > second_id) - (first_id < second_id)
                self.check(ascending, (first, first_id), (second, second_id), order or by_id)
                self.check(descending, (first, first_id), (second, second_id), -order or by_id)

    def test_the_id_decides_ascending(self):
        for order in ((), ((0, True),), ((0, False),), ((0, True), (1, True))):
            values = (5, "a")[:len(order)]
            self.check((ALL, order, ()), (*values, 1), (*values, 2), -1)
            self.check((ALL, order, ()), (*values, 9), (*values, 10), -1)
            self.check((ALL, order, ()), (*values, 10 ** 6), (*values, 10 ** 6), 0)

    def test_the_first_column_that_differs_decides(self):
        view = (ALL, ((2, False), (0, True), (1, False)), ())
        self.check(view, (1, 5, 5, 9), (2, 6, 4, 1), -1)
        self.check(view, (1, 5, 5, 9), (1, 6, 4, 1), 1)
        self.check(view, (1, 5, 5, 9), (1, 5, 4, 1), 1)
        self.check(view, (1, 5, 5, 9), (1, 5, 5, 10), -1)
        self.check(view, (1, "b", None, 9), (1, "a", 5, 1), -1)

    def test_the_condition_does_not_count(self):
        self.check((("not", ALL), ((0, False),), ()), (1, 1), (2, 1), -1)

    def test_equal_values_that_are_other_objects(self):
        self.check((ALL, ((0, True),), ()), ("ab", 1), ("".join(["a", "b"]), 1), 0)
        self.check((ALL, ((0, False),), ()), (123456789, 1), (int("123456789"), 1), 0)

    def test_random_keys_against_the_words_of_the_document(self):
        maker = random.Random(7)
        for _ in range(3000):
            many = maker.randrange(5)
            order = tuple((column, maker.random() < 0.5) for column in maker.sample(range(6), many))
            first, second = [
                tuple(maker.choice(ORDERED[2:7] + ["", "a", "ab", None]) for _ in range(many)) + (maker.randrange(1, 4),)
                for _ in range(2)
            ]
            due = (first[-1] > second[-1]) - (first[-1] < second[-1])
            for place in reversed(range(many)):
                way = -1 if order[place][1] else 1
                due = way * compare_values(first[place], second[place]) or due
            self.check((ALL, order, ()), first, second, due)

    def test_nothing_is_changed(self):
        arguments = (VIEW, (5, 7), ("ab", 9))
        before = copy.deepcopy(arguments)
        compare_keys(*arguments)
        self.assertEqual(arguments, before)

    def test_by_name(self):
        self.assertEqual(compare_keys(second=(4, 9), first=(5, 7), view=VIEW), -1)


if __name__ == "__main__":
    unittest.main()
