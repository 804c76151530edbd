import itertools
import unittest

from steadypages import marks
from steadypages.marks import compare_marks, is_between, is_mark
from samples import any_values, check_answers_for_any_value, nested_tuple

ALL = ("all",)
START, END = ("start",), ("end",)
BARE = (ALL, (), (0,))
UP = (ALL, ((0, False),), (0,))
DOWN = (ALL, ((0, True),), (1,))
TWO = (ALL, ((1, True), (0, False)), ())
# The keys of each view in its order.
KEYS = (
    (BARE, [(1,), (2,), (10,), (10 ** 6,)]),
    (UP, [(None, 1), (None, 2), (-1, 5), (0, 1), (0, 3), ("", 2), ("a", 1), ("ab", 1)]),
    (DOWN, [("ab", 1), ("a", 1), ("a", 2), ("", 1), (7, 3), (5, 7), (-5, 1), (None, 4)]),
    (TWO, [("b", None, 2), ("b", 1, 1), ("a", "a", 1), ("a", "a", 2), (3, 3, 3), (None, None, 1)]),
)


def marks_of(keys):
    """Return all marks at these keys, ascending."""
    return [START, *[(kind, key) for key in keys for kind in ("before", "after")], END]


class MarksTest(unittest.TestCase):

    def check_all(self, due, view, items):
        for item in items:
            with self.subTest(view=view, item=item):
                self.assertIs(is_mark(view, item), due)

    def check_yes(self, view, items):
        self.check_all(True, view, items)

    def check_no(self, view, items):
        self.check_all(False, view, items)


class IsMarkTest(MarksTest):

    def test_functions_are_defined_in_this_file(self):
        for name in ("is_mark", "compare_marks", "is_between"):
            self.assertEqual(getattr(marks, name).__module__, "steadypages.marks")

    def test_each_kind(self):
        for view, keys in KEYS:
            self.check_yes(view, marks_of(keys))

    def test_kinds_that_are_none(self):
        for kind in ("", "Start", "begin", "behind", "at", None, 0, True, (), [], {}, ("start",), "before "):
            self.check_no(UP, [(kind,), (kind, (5, 1)), (kind, (5, 1), 0)])

    def test_number_of_parts(self):
        self.check_no(UP, [
            (), ("start", (5, 1)), ("end", (5, 1)), ("start", None), ("end", ()), ("start", "end"), ("before",), ("after",),
            ("before", (5, 1), (5, 1)), ("after", (5, 1), None), ("before", 5, 1), ("after", "a", 1),
        ])

    def test_lengths_of_keys(self):
        for view, keys in KEYS:
            for kind in ("before", "after"):
                key = keys[0]
                self.check_no(view, [(kind, ()), (kind, key[:-1]), (kind, key[1:]), (kind, (5, *key)), (kind, (*key, 1))])
        self.check_yes(BARE, [("before", (5,))])
        self.check_no(UP, [("before", (5,))])

    def test_ids(self):
        for kind in ("before", "after"):
            self.check_yes(UP, [(kind, (5, row_id)) for row_id in (1, 2, 10 ** 6 - 1, 10 ** 6)])
            self.check_yes(BARE, [(kind, (row_id,)) for row_id in (1, 10 ** 6)])
            wrong = (0, -1, 10 ** 6 + 1, 10 ** 60 - 1, True, False, None, "1", "", (1,), [1], {})
            self.check_no(UP, [(kind, (5, row_id)) for row_id in wrong])
            self.check_no(BARE, [(kind, (row_id,)) for row_id in wrong])

    def test_values(self):
        for kind in ("before", "after"):
            good = (None, 0, 10 ** 9, -10 ** 9, "", "x" * 20, " ", "~", '"')
            bad = (True, False, 10 ** 9 + 1, -10 ** 9 - 1, "x" * 21, "\n", (), (5,), [], [5], {})
            self.check_yes(UP, [(kind, (value, 1)) for value in good])
            self.check_yes(TWO, [(kind, (value, other, 1)) for value in good for other in good])
            self.check_no(UP, [(kind, (value, 1)) for value in bad])
            self.check_no(TWO, [(kind, (5, value, 1)) for value in bad])
            self.check_no(TWO, [(kind, (value, 5, 1)) for value in bad])

    def test_keys_of_no_row(self):
        self.check_yes((("not", ALL), ((0, False),), ()), [("before", (5, 1)), ("after", ("a", 77))])

    def test_lists_for_tuples(self):
        self.check_no(UP, [
            ["start"], ["end"], ["before", (5, 1)], ("before", [5, 1]), ["after", [5, 1]], ("after", [5, 1]),
            "start", "end", "before", {"start": 1}, {}, [],
        ])

    def test_keys_of_another_kind(self):
        for kind in ("before", "after"):
            self.check_no(UP, [(kind, key) for key in (None, 0, 5, True, "", "a", "ab", [], {}, {5: 1}, "51")])
            self.check_no(BARE, [(kind, key) for key in ("", "a", 1, [1], {1: 1})])

    def test_any_value_is_answered(self):
        for view in (BARE, UP, TWO):
            check_answers_for_any_value(self, lambda value: is_mark(view, value))
            check_answers_for_any_value(self, lambda value: is_mark(view, (value,)))
            check_answers_for_any_value(self, lambda value: is_mark(view, (value, (5, 1))))
            check_answers_for_any_value(self, lambda value: is_mark(view, ("before", value)))
            check_answers_for_any_value(self, lambda value: is_mark(view, ("before", (value,))))
            check_answers_for_any_value(self, lambda value: is_mark(view, ("after", (value, 1))))
            check_answers_for_any_value(self, lambda value: is_mark(view, ("after", (1, value))))
            check_answers_for_any_value(self, lambda value: is_mark(view, ("start", value)))

    def test_other_values(self):
        for view in (BARE, UP, TWO):
            self.check_no(view, any_values())
        self.check_no(UP, [nested_tuple(START, 1), nested_tuple("start", 29), ("before", nested_tuple(1, 29))])

    def test_by_name(self):
        self.assertIs(is_mark(value=("before", (5, 1)), view=UP), True)


class CompareMarksTest(unittest.TestCase):

    def test_all_pairs(self):
        for view, keys in KEYS:
            ordered = marks_of(keys)
            for (place, first), (other, second) in itertools.product(enumerate(ordered), enumerate(ordered)):
                with self.subTest(view=view, first=first, second=second):
                    found = compare_marks(view, first, second)
                    self.assertEqual(found, (place > other) - (place < other))
                    self.assertIs(type(found), int)

    def test_start_and_end(self):
        for view, keys in KEYS:
            for key in keys:
                for kind in ("before", "after"):
                    self.assertEqual(compare_marks(view, START, (kind, key)), -1)
                    self.assertEqual(compare_marks(view, (kind, key), END), -1)
            self.assertEqual(compare_marks(view, START, START), 0)
            self.assertEqual(compare_marks(view, END, END), 0)
            self.assertEqual(compare_marks(view, END, START), 1)

    def test_one_key(self):
        self.assertEqual(compare_marks(UP, ("before", (5, 1)), ("after", (5, 1))), -1)
        self.assertEqual(compare_marks(DOWN, ("before", (5, 1)), ("after", (5, 1))), -1)
        self.assertEqual(compare_marks(DOWN, ("after", (5, 1)), ("before", (5, 1))), 1)
        self.assertEqual(compare_marks(UP, ("before", ("ab", 1)), ("before", ("".join("ab"), 1))), 0)

    def test_neighbouring_keys(self):
        self.assertEqual(compare_marks(UP, ("after", (5, 1)), ("before", (5, 2))), -1)
        self.assertEqual(compare_marks(DOWN, ("after", (5, 2)), ("before", (4, 1))), -1)
        self.assertEqual(compare_marks(DOWN, ("before", (4, 1)), ("before", (5, 1))), 1)

    def test_by_name(self):
        self.assertEqual(compare_marks(second=END, first=START, view=UP), -1)


class IsBetweenTest(unittest.TestCase):

    def test_example(self):
        self.assertIs(is_between(DOWN, (5, 7), START, ("before", (5, 7))), False)

    def test_all_keys_and_marks(self):
        for view, keys in KEYS:
            ordered = marks_of(keys)
            for low, high in itertools.combinations_with_replacement(range(len(ordered)), 2):
                for place, key in enumerate(keys):
                    # before and after of the key stand at 2 * place + 1 and 2 * place + 2.
                    due = low <= 2 * place + 1 and high >= 2 * place + 2
                    with self.subTest(view=view, low=ordered[low], high=ordered[high], key=key):
                        self.assertIs(is_between(view, key, ordered[low], ordered[high]), due)

    def test_edges(self):
        key = (5, 7)
        before, after = ("before", key), ("after", key)
        self.assertIs(is_between(DOWN, key, before, after), True)
        self.assertIs(is_between(DOWN, key, before, END), True)
        self.assertIs(is_between(DOWN, key, START, after), True)
        self.assertIs(is_between(DOWN, key, START, END), True)
        self.assertIs(is_between(DOWN, key, after, END), False)
        self.assertIs(is_between(DOWN, key, START, before), False)
        self.assertIs(is_between(DOWN, key, before, before), False)
        self.assertIs(is_between(DOWN, key, after, after), False)
        self.assertIs(is_between(DOWN, key, START, START), False)
        self.assertIs(is_between(DOWN, key, END, END), False)

    def test_marks_at_neighbouring_keys(self):
        self.assertIs(is_between(DOWN, (5, 7), ("after", (5, 6)), ("before", (5, 8))), True)
        self.assertIs(is_between(DOWN, (5, 7), ("after", (6, 9)), ("before", (4, 1))), True)
        self.assertIs(is_between(UP, (5, 7), ("after", (4, 9)), ("before", (6, 1))), True)
        self.assertIs(is_between(UP, (5, 7), ("before", (5, 8)), END), False)
        self.assertIs(is_between(UP, (5, 7), START, ("after", (5, 6))), False)

    def test_by_name(self):
        self.assertIs(is_between(high=END, low=("before", (5, 7)), key=(5, 7), view=UP), True)


if __name__ == "__main__":
    unittest.main()
