import unittest

from steadypages import values
from steadypages.values import compare_values, is_columns, is_row, is_value
from samples import any_values, check_answers_for_any_value, nested_dict, nested_list, nested_tuple

BARRED = ["all", "and", "in", "none", "not", "or", "starts"]

# In the order of values; no two are equal.
ORDERED = [
    None,
    -10 ** 9, -11, -10, -2, -1, 0, 1, 2, 9, 10, 10 ** 9,
    "", " ", " a", "!", "-1", "0", "1", "10", "2", "A", "Z", "Za", "a", "aB", "ab", "ab ", "abc", "b", "none", "~",
    "~~",
]


class ValuesTest(unittest.TestCase):

    def check_yes(self, question, items):
        for item in items:
            with self.subTest(item=item):
                self.assertIs(question(item), True)

    def check_no(self, question, items):
        for item in items:
            with self.subTest(item=item):
                self.assertIs(question(item), False)


class FilesTest(unittest.TestCase):

    def test_functions_are_defined_in_this_file(self):
        for name in ("is_value", "compare_values", "is_columns", "is_row"):
            self.assertEqual(getattr(values, name).__module__, "steadypages.values")


class IsValueTest(ValuesTest):

    def test_none(self):
        self.check_yes(is_value, [None])

    def test_integers_within_the_limits(self):
        self.check_yes(is_value, [0, 1, -1, 7, 10 ** 9 - 1, 10 ** 9, -10 ** 9 + 1, -10 ** 9])

    def test_integers_beyond_the_limits(self):
        self.check_no(is_value, [10 ** 9 + 1, -10 ** 9 - 1, 10 ** 60 - 1, -10 ** 60 + 1])

    def test_bools(self):
        self.check_no(is_value, [True, False])

    def test_strings_by_length(self):
        self.check_yes(is_value, ["", "a", "x" * 19, "x" * 20, " " * 20])
        self.check_no(is_value, ["x" * 21, " " * 21, "x" * 100])

    def test_strings_by_characters(self):
        self.check_yes(is_value, [chr(code) for code in range(ord(" "), ord("~") + 1)])
        self.check_yes(is_value, [" ~", "a \"b\" \\ c", "None", "-5"])
        self.check_no(is_value, ["\n", "a\n", "\na", "a\nb", "x" * 19 + "\n"])

    def test_tuples_lists_and_dicts(self):
        self.check_no(is_value, [(), (1,), ("a",), (None,), [], [1], ["a"], [None], {}, {1: 1}, {"a": None}])
        self.check_no(is_value, [nested_tuple(1, 30), nested_list(1, 30), nested_dict(1, 30)])

    def test_any_value_is_answered(self):
        check_answers_for_any_value(self, is_value)

    def test_by_name(self):
        self.assertIs(is_value(value=5), True)


class CompareValuesTest(unittest.TestCase):

    def test_example(self):
        self.assertEqual(compare_values(None, 0), -1)

    def test_all_pairs_in_both_orders(self):
        for place, first in enumerate(ORDERED):
            for other_place, second in enumerate(ORDERED):
                with self.subTest(first=first, second=second):
                    due = (place > other_place) - (place < other_place)
                    found = compare_values(first, second)
                    self.assertEqual(found, due)
                    self.assertIs(type(found), int)

    def test_kinds(self):
        self.assertEqual(compare_values(None, -10 ** 9), -1)
        self.assertEqual(compare_values(None, ""), -1)
        self.assertEqual(compare_values(10 ** 9, ""), -1)
        self.assertEqual(compare_values("", 10 ** 9), 1)
        self.assertEqual(compare_values("5", 5), 1)
        self.assertEqual(compare_values("", None), 1)
        self.assertEqual(compare_values(-10 ** 9, None), 1)

    def test_equal_values_that_are_other_objects(self):
        self.assertEqual(compare_values("".join(["a", "b"]), "".join(["ab"])), 0)
        self.assertEqual(compare_values(int("123456789"), int("123456789")), 0)
        self.assertEqual(compare_values(None, None), 0)

    def test_somewhat_beyond_the_limits(self):
        self.assertEqual(compare_values(10 ** 9 + 1, 10 ** 9 + 2), -1)
        self.assertEqual(compare_values("x" * 25, "x" * 24), 1)

    def test_by_name(self):
        self.assertEqual(compare_values(second=1, first=2), 1)


class IsColumnsTest(ValuesTest):

    def test_examples(self):
        self.check_no(is_columns, [("size", "all")])
        self.check_yes(is_columns, [("size",), ("size", "name")])

    def test_number_of_names(self):
        names = ("a", "b", "c", "d", "e", "f", "g")
        self.check_no(is_columns, [()])
        self.check_yes(is_columns, [names[:many] for many in range(1, 7)])
        self.check_no(is_columns, [names, names + ("h",)])

    def test_length_of_names(self):
        self.check_yes(is_columns, [("a",), ("z",), ("abcdefgh",), ("zzzzzzzz",), ("a", "aa")])
        self.check_no(is_columns, [("",), ("abcdefghi",), ("a", ""), ("", "a"), ("a", "abcdefghi")])

    def test_every_letter(self):
        self.check_yes(is_columns, [(letter,) for letter in "abcdefghijklmnopqrstuvwxyz"])

    def test_barred_names(self):
        for name in BARRED:
            self.check_no(is_columns, [(name,), ("size", name), (name, "size"), ("a", name, "b")])
            self.check_yes(is_columns, [(name + "x",), ("x" + name,)])

    def test_names_that_are_not_barred(self):
        self.check_yes(is_columns, [("equal",), ("less", "desc"), ("start",), ("end",), ("null",), ("i", "n")])

    def test_repeated_names(self):
        self.check_no(is_columns, [("size", "size"), ("a", "b", "a"), ("a", "b", "c", "d", "e", "a")])
        self.check_no(is_columns, [("size", "".join(["si", "ze"]))])

    def test_other_characters(self):
        self.check_no(is_columns, [
            ("Size",), ("siZe",), ("SIZE",), ("size1",), ("1",), ("a b",), (" a",), ("a ",), (" ",), ("a\n",),
            ("\n",), ("a_b",), ("a-b",), ("`",), ("{",), ("a", "B"),
        ])

    def test_other_kinds(self):
        self.check_no(is_columns, [["size"], ["size", "name"], "size", "s", "", {"size": 1}, None, 1, True])

    def test_items_that_are_no_strings(self):
        self.check_no(is_columns, [
            (1,), (None,), (True,), ("a", 1), ("a", None), (("a",),), (["a"],), ("a", []), ({},), ("a", {}), ([], []),
        ])

    def test_any_value_is_answered(self):
        check_answers_for_any_value(self, is_columns)
        for value in any_values():
            if value not in ("a", "size"):
                self.check_no(is_columns, [(value,), ("a", value)])

    def test_by_name(self):
        self.assertIs(is_columns(value=("size",)), True)


class IsRowTest(ValuesTest):

    def for_one(self, value):
        return is_row(("size",), value)

    def for_two(self, value):
        return is_row(("size", "name"), value)

    def test_example(self):
        self.assertIs(is_row(("size",), (1, (None,))), True)

    def test_ids(self):
        self.check_yes(self.for_one, [(row_id, (5,)) for row_id in (1, 2, 999999, 10 ** 6)])
        self.check_no(self.for_one, [(row_id, (5,)) for row_id in (
            0, -1, -10 ** 6, 10 ** 6 + 1, 10 ** 60 - 1, True, False, None, "1", "", (1,), [1], {},
        )])

    def test_number_of_values(self):
        self.check_no(self.for_one, [(1, ()), (1, (5, 5)), (1, (None, None))])
        self.check_no(self.for_two, [(1, ()), (1, (5,)), (1, (5, "a", None))])
        self.check_yes(self.for_two, [(1, (5, "a")), (1, (None, None)), (7, ("a", "a"))])
        six = ("a", "b", "c", "d", "e", "f")
        self.assertIs(is_row(six, (1, (1, 2, 3, 4, 5, 6))), True)
        self.assertIs(is_row(six, (1, (1, 2, 3, 4, 5))), False)

    def test_number_of_parts(self):
        self.check_no(self.for_one, [(), (1,), ((5,),), (1, (5,), (5,)), (1, (5,), None), (1, 5)])

    def test_lists_for_tuples(self):
        self.check_no(self.for_one, [[1, (5,)], (1, [5]), [1, [5]], {1: (5,)}, (1, {5: 5}), (1, {})])
        self.check_no(self.for_one, [(1, "a"), (1, None), "1a", (1, "")])

    def test_values_at_the_limits(self):
        self.check_yes(self.for_one, [(1, (item,)) for item in (None, 0, 10 ** 9, -10 ** 9, "", "x" * 20, " ", "~")])
        self.check_yes(self.for_two, [(1, (None, None)), (1, (10 ** 9, "x" * 20))])

    def test_values_that_are_none(self):
        wrong = [True, False, 10 ** 9 + 1, -10 ** 9 - 1, "x" * 21, "\n", (), (5,), [], [5], {}]
        self.check_no(self.for_one, [(1, (item,)) for item in wrong])
        self.check_no(self.for_two, [(1, (item, "a")) for item in wrong])
        self.check_no(self.for_two, [(1, ("a", item)) for item in wrong])

    def test_any_value_is_answered(self):
        check_answers_for_any_value(self, self.for_one)
        check_answers_for_any_value(self, lambda value: self.for_one((1, value)))
        check_answers_for_any_value(self, lambda value: self.for_one((1, (value,))))
        check_answers_for_any_value(self, lambda value: self.for_one((value, (5,))))

    def test_by_name(self):
        self.assertIs(is_row(value=(1, (5,)), columns=("size",)), True)
