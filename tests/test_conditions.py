import copy
import unittest

from steadypages import conditions
from steadypages.conditions import is_condition, matches
from samples import any_values, check_answers_for_any_value, nested_list, nested_tuple

ALL = ("all",)
KINDS_OF_TEST = ("equal", "less", "starts", "one_of")


def by_not(inner, times):
    for _ in range(times):
        inner = ("not", inner)
    return inner


def by_left(kind, inner, times):
    for _ in range(times):
        inner = (kind, inner, ALL)
    return inner


def by_right(kind, inner, times):
    for _ in range(times):
        inner = (kind, ALL, inner)
    return inner


def by_both(kind, inner, times):
    for _ in range(times):
        inner = (kind, inner, inner)
    return inner


def test_of(kind, column):
    """Return a test of this kind that is right, but perhaps for its column."""
    operand = {"equal": 1, "less": 1, "starts": "a", "one_of": (1,)}[kind]
    return (kind, column, operand)


class ConditionsTest(unittest.TestCase):

    def check_all(self, due, items, width=2):
        for item in items:
            with self.subTest(item=item, width=width):
                self.assertIs(is_condition(item, width), due)

    def check_yes(self, items, width=2):
        self.check_all(True, items, width)

    def check_no(self, items, width=2):
        self.check_all(False, items, width)


class FilesTest(unittest.TestCase):

    def test_functions_are_defined_in_this_file(self):
        for name in ("is_condition", "matches"):
            self.assertEqual(getattr(conditions, name).__module__, "steadypages.conditions")


class IsConditionTest(ConditionsTest):

    def test_each_kind(self):
        self.check_yes([
            ALL, ("equal", 0, 5), ("less", 1, "b"), ("starts", 0, "a"), ("one_of", 1, (1, "a", None)),
            ("not", ALL), ("and", ALL, ("equal", 0, None)), ("or", ("less", 0, 1), ("starts", 1, "~")),
        ])

    def test_columns(self):
        for kind in KINDS_OF_TEST:
            for width in (1, 2, 6):
                self.check_yes([test_of(kind, 0), test_of(kind, width - 1)], width)
                self.check_no([test_of(kind, column) for column in (
                    -1, -width, width, width + 1, 10 ** 60 - 1, True, False, None, "0", "size", (0,), [0], {},
                )], width)

    def test_columns_of_inner_conditions(self):
        for kind in KINDS_OF_TEST:
            good, bad = test_of(kind, 0), test_of(kind, 1)
            self.check_yes([("not", good), ("and", good, good), ("or", good, good)], 1)
            self.check_no([
                ("not", bad), ("and", good, bad), ("and", bad, good), ("or", good, bad), ("or", bad, good),
                ("not", ("or", good, ("and", good, bad))),
            ], 1)
            self.check_yes([("not", bad), ("or", good, bad)], 2)

    def test_operands_of_equal_and_less(self):
        for kind in ("equal", "less"):
            self.check_yes([(kind, 0, value) for value in (
                None, 0, -1, 10 ** 9, -10 ** 9, "", "a", " ", "~", "x" * 20,
            )])
            self.check_no([(kind, 0, value) for value in (
                True, False, 10 ** 9 + 1, -10 ** 9 - 1, "x" * 21, "\n", "a\n", (), (1,), [], [1], {}, ALL,
            )])

    def test_operands_of_starts(self):
        self.check_yes([("starts", 0, text) for text in ("a", " ", "~", "x" * 19, "x" * 20, '"', "\\")])
        self.check_no([("starts", 0, text) for text in (
            "", "x" * 21, "\n", "a\n", None, 0, 5, True, ("a",), ["a"], {"a": 1}, (), [],
        )])

    def test_operands_of_one_of(self):
        self.check_yes([("one_of", 0, tuple(range(many))) for many in range(1, 9)])
        self.check_no([("one_of", 0, ()), ("one_of", 0, tuple(range(9))), ("one_of", 0, tuple(range(20)))])
        self.check_yes([("one_of", 0, values) for values in (
            (None,), ("",), ("x" * 20,), (10 ** 9, -10 ** 9), (1, 1), ("a",) * 8, (None, 0, "a"),
        )])
        self.check_no([("one_of", 0, values) for values in (
            [1], [1, 2], [], {1: 2}, {}, "a", "abc", "", None, 1, True,
            (True,), (1, False), (1, "x" * 21), ("\n",), (10 ** 9 + 1, 1), ((1,),), (1, ()), ([],), (1, [1]), ({},),
        )])

    def test_depths(self):
        for inner in (ALL, ("equal", 0, 1), ("less", 0, 1), ("starts", 0, "a"), ("one_of", 0, (1, 2))):
            self.check_yes([by_not(inner, times) for times in range(8)])
            self.check_no([by_not(inner, 8), by_not(inner, 9)])
            for kind in ("and", "or"):
                for nested in (by_left, by_right, by_both):
                    self.check_yes([nested(kind, inner, times) for times in range(8)])
                    self.check_no([nested(kind, inner, 8), nested(kind, inner, 9)])

    def test_depths_of_mixed_conditions(self):
        mixed = by_not(by_left("and", by_right("or", ("equal", 0, 1), 2), 3), 2)
        self.check_yes([mixed])
        self.check_no([("not", mixed), ("and", ALL, mixed), ("or", mixed, ALL)])
        self.check_yes([("and", by_not(ALL, 6), by_not(ALL, 3)), ("or", by_not(ALL, 2), by_not(ALL, 6))])
        self.check_no([("and", by_not(ALL, 7), ALL), ("and", ALL, by_not(ALL, 7))])
        self.check_no([("or", by_not(ALL, 7), ALL), ("or", ALL, by_not(ALL, 7))])

    def test_missing_parts(self):
        self.check_no([
            (), ("equal",), ("equal", 0), ("less",), ("less", 0), ("starts",), ("starts", 0), ("starts", "a"),
            ("one_of",), ("one_of", 0), ("one_of", (1,)), ("not",), ("and",), ("and", ALL), ("or",), ("or", ALL),
            ("and", ()), ("not", ()), ("or", ALL, ()), ("and", (), ALL),
        ])

    def test_too_many_parts(self):
        self.check_no([
            ("all", ALL), ("all", None), ("all", 0, 1), ("all", ALL, ALL), ("equal", 0, 1, 1), ("less", 0, 1, None),
            ("starts", 0, "a", "b"), ("one_of", 0, (1,), (2,)), ("one_of", 0, 1, 2), ("not", ALL, ALL),
            ("not", 0, 1), ("and", ALL, ALL, ALL), ("or", ALL, ALL, ALL), ("all", "all"),
        ])

    def test_parts_of_another_kind(self):
        for part in (None, 0, 1, True, "all", "", (), ("none",), [], {}, ["all"], {"all": 1}, (ALL,)):
            self.check_no([
                ("not", part), ("and", part, ALL), ("and", ALL, part), ("or", part, ALL), ("or", ALL, part),
                ("and", part, part), ("or", part, part),
            ])
        self.check_no([("equal", ALL, 1), ("less", 1, ALL), ("and", 0, 1), ("or", 0, 1), (ALL,), (ALL, ALL, ALL)])

    def test_lists_for_tuples(self):
        self.check_no([
            ["all"], ["equal", 0, 1], ["less", 0, 1], ["starts", 0, "a"], ["one_of", 0, (1,)], ["not", ALL],
            ["and", ALL, ALL], ["or", ALL, ALL], ("not", ["all"]), ("and", ALL, ["all"]), ("or", ["all"], ALL),
            ("not", ["equal", 0, 1]), [], "all",
        ])

    def test_unknown_names(self):
        self.check_no([
            ("none",), ("ALL",), ("All",), ("all ",), ("",), ("al",), ("a",), (None,), (0,), (True,), ((),), ([],),
            ({},), ("any",), ("Equal", 0, 1), ("=", 0, 1), ("<", 0, 1), ("in", 0, (1,)), ("greater", 0, 1),
            ("equals", 0, 1), ("oneof", 0, (1,)), ("start", 0, "a"), ("Not", ALL), ("xor", ALL, ALL),
            ("nand", ALL, ALL), ("", 0, 1), (None, 0, 1), (1, 0, 1), ("", ALL), (None, ALL), ([], ALL), ([], ALL, ALL),
        ])

    def test_values_nested_30_deep(self):
        self.check_no([
            by_not(ALL[0], 30), by_not(ALL, 29), by_left("and", ALL, 29), by_right("or", ALL, 29),
            nested_tuple(ALL, 29), nested_list(ALL, 29), ("equal", 0, nested_tuple(1, 29)),
            ("one_of", 0, nested_tuple(1, 29)), ("not", nested_list("all", 29)), ("and", ALL, nested_tuple([], 28)),
            ("starts", nested_tuple(0, 29), "a"), (nested_tuple(0, 29), 0, 1), (nested_list(0, 29), ALL),
        ])

    def test_parts_that_are_shared_30_deep(self):
        # No subTest here: showing such a value would take 2 ** 29 steps.
        self.assertIs(is_condition(by_both("and", ALL, 29), 2), False)
        self.assertIs(is_condition(by_both("or", ALL, 29), 2), False)

    def test_any_value_is_answered(self):
        check_answers_for_any_value(self, lambda value: is_condition(value, 2))
        check_answers_for_any_value(self, lambda value: is_condition(("not", value), 2))
        check_answers_for_any_value(self, lambda value: is_condition((value, ALL, ALL), 2))
        for kind in KINDS_OF_TEST:
            check_answers_for_any_value(self, lambda value: is_condition((kind, 0, value), 2))
            check_answers_for_any_value(self, lambda value: is_condition((kind, value, "a"), 2))
        for kind in ("and", "or"):
            check_answers_for_any_value(self, lambda value: is_condition((kind, ALL, value), 2))
            check_answers_for_any_value(self, lambda value: is_condition((kind, value, ALL), 2))

    def test_any_other_values_are_none(self):
        self.check_no([value for value in any_values() if value != ALL])

    def test_argument_stays_as_it_was(self):
        for value in (["and", ALL, ["all"]], ("not", ["all", {1: [2]}]), ("one_of", 0, [1, [2]]), {"all": [1]}):
            before = copy.deepcopy(value)
            is_condition(value, 2)
            self.assertEqual(value, before)

    def test_by_name(self):
        self.assertIs(is_condition(width=1, value=("equal", 0, 5)), True)


class MatchesTest(unittest.TestCase):

    def check(self, condition, yes, no):
        """Check a condition against rows of one value that satisfy it and that do not."""
        for value in yes:
            with self.subTest(condition=condition, value=value):
                self.assertIs(matches(condition, (value,)), True)
        for value in no:
            with self.subTest(condition=condition, value=value):
                self.assertIs(matches(condition, (value,)), False)

    def test_example(self):
        self.assertIs(matches(("less", 0, 1), (None,)), True)

    def test_all(self):
        self.check(ALL, [None, 0, -5, "", "a"], [])

    def test_equal(self):
        self.check(("equal", 0, None), [None], [0, 1, "", "none", "None"])
        self.check(("equal", 0, 0), [0], [None, 1, -1, "0", ""])
        self.check(("equal", 0, -7), [-7], [7, "-7", None])
        self.check(("equal", 0, ""), [""], [None, 0, " ", "a"])
        self.check(("equal", 0, "ab"), ["ab", "".join(["a", "b"])], ["a", "abc", "Ab", " ab", None, 0])

    def test_less_among_integers(self):
        self.check(("less", 0, 5), [4, 0, -5, -10 ** 9], [5, 6, 10 ** 9])
        self.check(("less", 0, -5), [-6, -10 ** 9], [-5, -4, 0, 5])
        self.check(("less", 0, 10), [9], [10, 11])

    def test_less_among_strings(self):
        self.check(("less", 0, "b"), ["", "a", "azzz", "B", "1"], ["b", "ba", "c", "~"])
        self.check(("less", 0, "10"), ["", "1", "0"], ["10", "9", "100"])
        self.check(("less", 0, ""), [], ["", "a", " "])

    def test_less_among_different_kinds(self):
        self.check(("less", 0, None), [], [None, -10 ** 9, 0, "", "a"])
        self.check(("less", 0, -10 ** 9), [None], [-10 ** 9, "", "-9"])
        self.check(("less", 0, 5), [None], ["", "0", "a"])
        self.check(("less", 0, ""), [None, -10 ** 9, 10 ** 9], [""])
        self.check(("less", 0, "0"), [None, 1, 10 ** 9, ""], ["0", "a"])

    def test_starts(self):
        self.check(("starts", 0, "a"), ["a", "ab", "aa", "a b"], ["", "A", "ba", " a", "b"])
        self.check(("starts", 0, "ab"), ["ab", "abc", "ab "], ["a", "aab", "ba", ""])
        self.check(("starts", 0, "x" * 20), ["x" * 20], ["x" * 19])

    def test_starts_at_a_value_that_is_no_string(self):
        self.check(("starts", 0, "1"), ["1", "10"], [1, 10, -1, None, 0])
        self.check(("starts", 0, "N"), ["N", "None"], [None, 0])
        self.check(("starts", 0, "-"), ["-1"], [-1])

    def test_one_of(self):
        self.check(("one_of", 0, (1,)), [1], [0, 2, None, "1"])
        self.check(("one_of", 0, (None, 3, "a")), [None, 3, "a"], [0, "3", "", "ab", "A", -3])
        self.check(("one_of", 0, (1, 2, 3, 4, 5, 6, 7, 8)), [1, 2, 7, 8], [0, 9, None, "8"])
        self.check(("one_of", 0, ("", "abc")), ["", "abc"], ["a", "ab", "b", None])
        self.check(("one_of", 0, (5, 5)), [5], [55])

    def test_not(self):
        self.check(("not", ALL), [], [None, 0, "a"])
        self.check(("not", ("equal", 0, 5)), [4, None, "5"], [5])
        self.check(("not", ("less", 0, 5)), [5, 6, "", "a"], [4, None])
        self.check(("not", ("starts", 0, "a")), [None, 0, "", "b"], ["a", "ab"])
        self.check(("not", ("one_of", 0, (1, None))), [0, 2, "a"], [1, None])
        self.check(by_not(("equal", 0, 5), 2), [5], [4, None])
        self.check(by_not(("equal", 0, 5), 7), [4, None], [5])

    def test_and_and_or(self):
        yes, no = ALL, ("not", ALL)
        for first in (yes, no):
            for second in (yes, no):
                both = first == yes and second == yes
                either = first == yes or second == yes
                self.assertIs(matches(("and", first, second), (1,)), both)
                self.assertIs(matches(("or", first, second), (1,)), either)

    def test_nested(self):
        middle = ("and", ("not", ("less", 0, 3)), ("less", 0, 6))
        self.check(middle, [3, 4, 5], [None, 2, 6, ""])
        self.check(("or", middle, ("starts", 0, "a")), [3, 5, "a", "ab"], [None, 2, 6, "b"])
        self.check(("not", ("or", middle, ("equal", 0, None))), [2, 6, "a"], [3, 5, None])
        self.check(("and", ("or", ("equal", 0, 1), ("equal", 0, 2)), ("not", ("equal", 0, 2))), [1], [2, 3, None])
        self.check(("or", ("equal", 0, 1), ("and", ("equal", 0, 2), ("not", ALL))), [1], [2, 3])

    def test_columns(self):
        row = (None, 5, "abc", -2, "", "5")
        for column, value in enumerate(row):
            for other, held in enumerate(row):
                self.assertIs(matches(("equal", other, value), row), column == other)
                self.assertIs(matches(("one_of", other, (value,)), row), column == other)
        self.assertIs(matches(("less", 3, 0), row), True)
        self.assertIs(matches(("less", 1, 0), row), False)
        self.assertIs(matches(("starts", 2, "ab"), row), True)
        self.assertIs(matches(("starts", 5, "ab"), row), False)
        self.assertIs(matches(("and", ("equal", 1, 5), ("starts", 2, "a")), row), True)
        self.assertIs(matches(("and", ("equal", 1, 5), ("starts", 5, "a")), row), False)

    def test_limits_of_conditions(self):
        widest = ("one_of", 0, tuple(range(8)))
        self.check(by_left("and", widest, 7), [0, 7], [8, None])
        self.check(by_right("or", ("equal", 0, 1), 7), [0, 1], [])

    def test_somewhat_beyond_the_limits(self):
        self.check(by_not(("equal", 0, 5), 20), [5], [4])
        self.check(("one_of", 0, tuple(range(12))), [0, 11], [12])
        self.check(("starts", 0, "x" * 21), ["x" * 22], ["x" * 20, 1])

    def test_nothing_is_changed(self):
        condition = ("or", ("one_of", 0, (1, 2)), ("not", ("and", ("equal", 0, 3), ("less", 1, "b"))))
        values = (3, "a")
        before = copy.deepcopy((condition, values))
        self.assertIs(matches(condition, values), False)
        self.assertIs(matches(condition, values), False)
        self.assertEqual((condition, values), before)

    def test_by_name(self):
        self.assertIs(matches(values=(5,), condition=("equal", 0, 5)), True)
