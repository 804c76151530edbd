import unittest

from steadypages import errors
from steadypages.errors import (
    BadAnswers, BadColumns, BadCommand, BadCondition, BadCount, BadMark, BadRow, BadText, BadToken,
    Mismatch, NameTaken, PageError, UnknownName, UnknownVersion,
)
from samples import any_values

ATTRIBUTES = [
    (BadColumns, "value"),
    (BadRow, "value"),
    (BadCondition, "position"),
    (BadMark, "mark"),
    (BadToken, "token"),
    (BadCount, "count"),
    (BadText, "text"),
    (BadAnswers, "index"),
    (Mismatch, "row_id"),
    (UnknownVersion, "version"),
    (UnknownName, "name"),
    (NameTaken, "name"),
    (BadCommand, "command"),
]


class ErrorsTest(unittest.TestCase):

    def each_error(self):
        for error_class, attribute in ATTRIBUTES:
            with self.subTest(error=error_class.__name__):
                yield error_class, attribute

    def test_classes_are_defined_in_this_file(self):
        for error_class in [PageError] + [error_class for error_class, _ in ATTRIBUTES]:
            self.assertEqual(error_class.__module__, "steadypages.errors")
            self.assertIs(getattr(errors, error_class.__name__), error_class)

    def test_page_error_is_a_value_error(self):
        self.assertEqual(PageError.__bases__, (ValueError,))

    def test_others_are_direct_subclasses_of_page_error(self):
        for error_class, _ in self.each_error():
            self.assertEqual(error_class.__bases__, (PageError,))

    def test_is_none_of_the_other_classes(self):
        for error_class, _ in self.each_error():
            error = error_class(1)
            self.assertIsInstance(error, PageError)
            self.assertIsInstance(error, ValueError)
            for other, _ in ATTRIBUTES:
                self.assertEqual(isinstance(error, other), other is error_class)

    def test_made_by_position_keeps_the_value_itself(self):
        for error_class, attribute in self.each_error():
            for value in any_values():
                self.assertIs(getattr(error_class(value), attribute), value)

    def test_made_by_name_keeps_the_value_itself(self):
        for error_class, attribute in self.each_error():
            for value in any_values():
                self.assertIs(getattr(error_class(**{attribute: value}), attribute), value)

    def test_value_is_not_copied(self):
        for error_class, attribute in self.each_error():
            value = [1]
            error = error_class(value)
            value.append(2)
            self.assertEqual(getattr(error, attribute), [1, 2])
            self.assertIs(getattr(error, attribute), value)

    def test_two_errors_keep_their_own_values(self):
        for error_class, attribute in self.each_error():
            one, two = [1], [1]
            first = error_class(one)
            second = error_class(**{attribute: two})
            self.assertIs(getattr(first, attribute), one)
            self.assertIs(getattr(second, attribute), two)

    def test_raised_and_caught_by_each_of_its_classes(self):
        for error_class, attribute in self.each_error():
            value = {"a": 1}
            for caught in (error_class, PageError, ValueError):
                with self.assertRaises(caught) as context:
                    raise error_class(value)
                self.assertIs(type(context.exception), error_class)
                self.assertIs(getattr(context.exception, attribute), value)

    def test_takes_just_one_argument_of_the_name_shown(self):
        for error_class, attribute in self.each_error():
            with self.assertRaises(TypeError):
                error_class()
            with self.assertRaises(TypeError):
                error_class(1, 2)
            with self.assertRaises(TypeError):
                error_class(**{attribute + "s": 1})
