"""Any values, in the sense of point [2] of the document, for the tests."""

import copy


def nested_tuple(core, depth):
    for _ in range(depth):
        core = (core,)
    return core


def nested_list(core, depth):
    for _ in range(depth):
        core = [core]
    return core


def nested_dict(core, depth):
    for _ in range(depth):
        core = {"all": core}
    return core


def any_values():
    """Return values of every kind; each call makes new lists and dicts."""
    return [
        0, 1, -1, 5, 10 ** 9, -10 ** 9, 10 ** 9 + 1, 10 ** 60 - 1, -10 ** 60 + 1,
        True, False, None,
        "", "a", "size", "all", "\n", "a\n", "\na", " ", "~", '"', "x" * 20, "x" * 21, "x" * 1000,
        (), (None,), (1, 2), (1, 2, 3), ("all",), ("size",), ("size", "size"), (1, (5,)), ((),), ([],), ({},),
        ([], ()), ({}, ()), (1, []), (1, {}), (1, ([],)), (1, ({},)), ("equal", [], {}), ([], 0, 1), ({}, 0, 1),
        ((), 0, 1), (None, 0, 1), (True, 0, 1), (1, 0, 1), ("one_of", 0, ([], {})), ("not", []), ("and", {}, []),
        [], [None], ["all"], ["size"], [1, [5]], [1, (5,)], [[]], [{}],
        {}, {"all": 1}, {"size": "size"}, {0: "all"}, {1: (5,)}, {("a", 1): [2]}, {None: {True: ()}},
        nested_tuple(0, 30), nested_tuple("all", 30), nested_tuple([], 29),
        nested_list(None, 30), nested_list((), 29), nested_dict(1, 30), nested_dict(["a"], 29),
        tuple(nested_tuple(0, 29) for _ in range(3)), [nested_dict(1, 29), nested_list(1, 29)],
    ]


def plain_value_text(value):
    """Return the text of a value, in the words of point [24]."""
    if value is None:
        return "none"
    if isinstance(value, int):
        return "%d" % value
    return '"' + "".join("\\" + sign if sign in '"\\' else sign for sign in value) + '"'


def check_answers_for_any_value(test, question):
    """Check that a question about any value is answered by a bool and changes nothing."""
    for value in any_values():
        with test.subTest(value=value):
            before = copy.deepcopy(value)
            test.assertIs(type(question(value)), bool)
            test.assertEqual(repr(value), repr(before))


def check_error(test, error, name, value, call, *arguments, **named):
    """Check that a call raises exactly this error, and that the error keeps the value itself."""
    with test.assertRaises(error) as caught:
        call(*arguments, **named)
    test.assertIs(type(caught.exception), error)
    kept = getattr(caught.exception, name)
    test.assertIs(type(kept), type(value))
    test.assertEqual(repr(kept), repr(value))
    if isinstance(value, (list, dict)):
        test.assertIs(kept, value)
