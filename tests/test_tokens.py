import copy
import itertools
import unittest

from steadypages import tokens
from steadypages.errors import BadMark, BadToken
from steadypages.tokens import is_token, join_tokens, narrow_token, split_token
from samples import any_values, check_answers_for_any_value, check_error

ALL = ("all",)
START, END = ("start",), ("end",)
VIEW = (ALL, ((0, False),), (0,))
DOWN = (ALL, ((0, True),), (0,))
TOP = ("top", VIEW, 3, 5)
# Marks of VIEW, ascending.
MARKS = (
    START, ("before", (None, 9)), ("before", (5, 1)), ("after", (5, 1)), ("before", (7, 2)), ("after", (7, 2)),
    ("after", ("a", 1)), END,
)


def window(low, high, view=VIEW, version=0):
    return ("window", view, version, low, high)


class IsTokenTest(unittest.TestCase):

    def check_all(self, due, items, width=1):
        for item in items:
            with self.subTest(item=item, width=width):
                self.assertIs(is_token(item, width), due)

    def check_yes(self, items, width=1):
        self.check_all(True, items, width)

    def check_no(self, items, width=1):
        self.check_all(False, items, width)

    def test_functions_are_defined_in_this_file(self):
        for name in ("is_token", "split_token", "narrow_token", "join_tokens"):
            self.assertEqual(getattr(tokens, name).__module__, "steadypages.tokens")

    def test_both_kinds(self):
        self.check_yes([window(START, END), window(START, START), window(END, END), TOP, ("top", DOWN, 0, 0)])

    def test_marks(self):
        for (place, low), (other, high) in itertools.product(enumerate(MARKS), enumerate(MARKS)):
            self.check_all(place <= other, [window(low, high)])

    def test_marks_of_a_descending_view(self):
        self.check_yes([window(("before", (7, 2)), ("after", (5, 1)), DOWN)])
        self.check_no([window(("before", (5, 1)), ("after", (7, 2)), DOWN)])
        self.check_yes([window(("before", (5, 1)), ("after", (5, 1)), DOWN)])
        self.check_no([window(("after", (5, 1)), ("before", (5, 1)), DOWN)])

    def test_marks_that_are_none(self):
        for mark in (("before", (1,)), ("before", (5, 0)), ("after", (5, 1, 1)), ("start", 1), ("middle",), ["start"],
                     ("before", [5, 1]), ("before", (True, 1)), None, (), "start", START[0], ("after",), {}, 0):
            self.check_no([window(mark, END), window(START, mark), window(mark, mark)])

    def test_versions(self):
        good = (0, 1, 10 ** 9, 10 ** 9 + 1, 10 ** 60 - 1)
        bad = (-1, -10 ** 60 + 1, True, False, None, "0", "", (0,), [0], {}, ())
        self.check_yes([window(START, END, VIEW, version) for version in good])
        self.check_yes([("top", VIEW, version, 5) for version in good])
        self.check_no([window(START, END, VIEW, version) for version in bad])
        self.check_no([("top", VIEW, version, 5) for version in bad])

    def test_counts(self):
        self.check_yes([("top", VIEW, 3, count) for count in (0, 1, 10 ** 6 - 1, 10 ** 6)])
        self.check_no([("top", VIEW, 3, count) for count in (
            -1, 10 ** 6 + 1, 10 ** 60 - 1, True, False, None, "5", "", (5,), [5], {}, START,
        )])

    def test_views(self):
        wide = (("equal", 1, 5), ((1, True),), (0, 1))
        self.check_yes([window(START, END, wide), ("top", wide, 0, 1)], 2)
        self.check_no([window(START, END, wide), ("top", wide, 0, 1)], 1)
        for view in (None, (), ALL, (ALL, ()), (ALL, (), (), ()), [ALL, (), ()], (ALL, [], ()), (ALL, (), []),
                     (("equal", 2, 5), (), ()), (ALL, ((0, 1),), ()), (ALL, (), (0, 0)), "view", {}, 0):
            self.check_no([window(START, END, view), ("top", view, 0, 1)], 2)

    def test_parts_missing_and_too_many(self):
        self.check_no([
            (), ("window",), ("top",), ("window", VIEW), ("top", VIEW), ("window", VIEW, 0), ("top", VIEW, 0),
            ("window", VIEW, 0, START), ("window", VIEW, 0, 5), ("top", VIEW, 0, START), ("top", VIEW, 0, START, END),
            (*window(START, END), 1), (*window(START, END), END), (*TOP, 5), (*TOP, 5, 5), ("top", VIEW, 0, 5, None),
        ])

    def test_parts_of_another_kind(self):
        self.check_no([
            ("Window", VIEW, 0, START, END), ("windows", VIEW, 0, START, END), ("", VIEW, 0, START, END),
            (None, VIEW, 0, START, END), (0, VIEW, 0, 5), ([], VIEW, 0, 5), ({}, VIEW, 0, START, END), ("Top", VIEW, 0, 5),
            ("shards", VIEW, 0, START, END), ("shards", VIEW, (0,), START, END), ("window", 0, VIEW, START, END),
            ("top", VIEW, 5, VIEW), (("window",), VIEW, 0, START, END),
        ])

    def test_lists_for_tuples(self):
        self.check_no([
            list(window(START, END)), list(TOP), window(["start"], END), window(START, ["end"]),
            window(("before", [5, 1]), END), {"window": 1}, [], "window",
        ])

    def test_any_value_is_answered(self):
        for inner in (
            lambda value: value,
            lambda value: (value, VIEW, 0, START, END),
            lambda value: (value, VIEW, 0, 5),
            lambda value: ("window", value, 0, START, END),
            lambda value: ("top", value, 0, 5),
            lambda value: ("window", VIEW, value, START, END),
            lambda value: ("top", VIEW, value, 5),
            lambda value: ("window", VIEW, 0, value, END),
            lambda value: ("window", VIEW, 0, START, value),
            lambda value: ("window", VIEW, 0, value, value),
            lambda value: ("top", VIEW, 0, value),
            lambda value: ("window", VIEW, 0, ("before", (value, 1)), END),
        ):
            check_answers_for_any_value(self, lambda value: is_token(inner(value), 1))

    def test_other_values(self):
        self.check_no(any_values())

    def test_by_name(self):
        self.assertIs(is_token(width=1, value=TOP), True)


class PlacesTest(unittest.TestCase):

    def all_windows(self):
        """Return all windows between the marks, with the places of their marks."""
        return [(low, high, window(MARKS[low], MARKS[high]))
                for low, high in itertools.combinations_with_replacement(range(len(MARKS)), 2)]


class SplitTest(PlacesTest):

    def test_example(self):
        check_error(self, BadMark, "mark", END, split_token, window(START, ("after", (7, 2))), END)

    def test_all_windows_and_marks(self):
        for low, high, token in self.all_windows():
            for place, mark in enumerate(MARKS):
                with self.subTest(token=token, mark=mark):
                    if low <= place <= high:
                        due = (window(MARKS[low], mark), window(mark, MARKS[high]))
                        self.assertEqual(split_token(token, mark), due)
                        self.assertIs(type(split_token(token, mark)), tuple)
                    else:
                        check_error(self, BadMark, "mark", mark, split_token, token, mark)

    def test_view_and_version_stay(self):
        token = window(("before", (7, 2)), END, DOWN, 10 ** 60 - 1)
        self.assertEqual(split_token(token, ("after", (5, 1))), (
            window(("before", (7, 2)), ("after", (5, 1)), DOWN, 10 ** 60 - 1),
            window(("after", (5, 1)), END, DOWN, 10 ** 60 - 1),
        ))
        check_error(self, BadMark, "mark", ("before", (8, 1)), split_token, token, ("before", (8, 1)))

    def test_top_tokens(self):
        for mark in (START, END, ("before", (5, 1))):
            check_error(self, BadToken, "token", TOP, split_token, TOP, mark)

    def test_the_parts_can_be_joined(self):
        for low, high, token in self.all_windows():
            for place in range(low, high + 1):
                self.assertEqual(join_tokens(*split_token(token, MARKS[place])), token)

    def test_by_name(self):
        token = window(START, END)
        self.assertEqual(split_token(mark=END, token=token), (token, window(END, END)))


class NarrowTest(PlacesTest):

    def test_all_windows_and_marks(self):
        for low, high, token in self.all_windows():
            for first, second in itertools.combinations_with_replacement(range(len(MARKS)), 2):
                marks = (MARKS[first], MARKS[second])
                with self.subTest(token=token, marks=marks):
                    if not low <= first <= high:
                        check_error(self, BadMark, "mark", marks[0], narrow_token, token, *marks)
                    elif not low <= second <= high:
                        check_error(self, BadMark, "mark", marks[1], narrow_token, token, *marks)
                    else:
                        self.assertEqual(narrow_token(token, *marks), window(*marks))

    def test_both_marks_out_of_place(self):
        token = window(("before", (5, 1)), ("after", (5, 1)))
        check_error(self, BadMark, "mark", START, narrow_token, token, START, END)
        check_error(self, BadMark, "mark", START, narrow_token, token, START, START)
        check_error(self, BadMark, "mark", ("before", (7, 2)), narrow_token, token, ("before", (7, 2)), END)

    def test_the_first_after_the_second(self):
        token = window(START, END)
        check_error(self, BadMark, "mark", END, narrow_token, token, END, START)
        check_error(self, BadMark, "mark", ("after", (5, 1)), narrow_token, token, ("after", (5, 1)), ("before", (5, 1)))

    def test_view_and_version_stay(self):
        token = window(START, END, DOWN, 7)
        marks = (("before", (7, 2)), ("after", (5, 1)))
        self.assertEqual(narrow_token(token, *marks), window(*marks, DOWN, 7))

    def test_a_new_token(self):
        token = window(START, END)
        self.assertEqual(narrow_token(token, START, END), token)
        self.assertIsNot(narrow_token(token, START, END), token)

    def test_top_tokens(self):
        check_error(self, BadToken, "token", TOP, narrow_token, TOP, START, END)
        check_error(self, BadToken, "token", TOP, narrow_token, TOP, END, START)

    def test_by_name(self):
        self.assertEqual(narrow_token(high=START, low=START, token=window(START, END)), window(START, START))


class JoinTest(PlacesTest):

    def test_all_windows(self):
        for (low, middle, first), (other, high, second) in itertools.product(self.all_windows(), self.all_windows()):
            if middle == other:
                self.assertEqual(join_tokens(first, second), window(MARKS[low], MARKS[high]))
            else:
                check_error(self, BadToken, "token", second, join_tokens, first, second)

    def test_different_views_and_versions(self):
        middle = ("before", (5, 1))
        first = window(START, middle, VIEW, 3)
        self.assertEqual(join_tokens(first, window(middle, END, VIEW, 3)), window(START, END, VIEW, 3))
        for view, version in (
            (VIEW, 2), (VIEW, 4), (DOWN, 3), (DOWN, 4), ((ALL, ((0, False),), ()), 3), ((("less", 0, 9), *VIEW[1:]), 3),
        ):
            second = window(middle, END, view, version)
            check_error(self, BadToken, "token", second, join_tokens, first, second)

    def test_top_tokens(self):
        other = ("top", VIEW, 3, 6)
        good = window(START, END, VIEW, 3)
        check_error(self, BadToken, "token", TOP, join_tokens, TOP, other)
        check_error(self, BadToken, "token", TOP, join_tokens, TOP, good)
        check_error(self, BadToken, "token", TOP, join_tokens, good, TOP)
        check_error(self, BadToken, "token", other, join_tokens, window(END, END, DOWN, 9), other)

    def test_the_arguments_stay_as_they_were(self):
        arguments = (window(START, END), window(END, END))
        before = copy.deepcopy(arguments)
        join_tokens(*arguments)
        self.assertEqual(arguments, before)

    def test_by_name(self):
        self.assertEqual(join_tokens(second=window(END, END), first=window(START, END)), window(START, END))


if __name__ == "__main__":
    unittest.main()
