import copy
import itertools
import random
import unittest

from steadypages import texts
from steadypages.errors import BadText
from steadypages.texts import mark_text, parse_token, row_text, token_text, value_text
from steadypages.tokens import is_token
from histories import ALL, END, START, VIEW, VIEWS, grown, some_marks
from samples import any_values, check_error, plain_value_text

PAIR = (ALL, ((1, False), (0, True)), (0,))
NONE = (ALL, (), ())
NAMED = {"recent": VIEW, "pair": PAIR, "none": NONE, "w": VIEW, "start": PAIR, "abcdefgh": NONE}
STRINGS = ("", " ", "a", '"', "\\", '\\"', '"\\', "\\\\", '""', "a b", "  ", "/", "none", "5", ":", "~", "x" * 20, '"' * 20,
           "\\" * 20, "start", "' '", "a \"b\" \\c", "-")


def plain_check_number(text):
    """Return the check number, in the words of the document."""
    total = 0
    for place, sign in enumerate(text):
        if "0" <= sign <= "9":
            weight = int(sign) + 1
        elif "a" <= sign <= "z":
            weight = ord(sign) - ord("a") + 11
        else:
            weight = 37
        total += (place + 1) * weight
    return total % 997


def checked(text):
    """Return a text with the check number that fits."""
    return f"{text} {plain_check_number(text)}"


class FilesTest(unittest.TestCase):

    def test_functions_are_defined_in_this_file(self):
        for name in ("value_text", "mark_text", "row_text", "token_text", "parse_token"):
            self.assertEqual(getattr(texts, name).__module__, "steadypages.texts")


class ValueTextTest(unittest.TestCase):

    def test_example(self):
        self.assertEqual(value_text('a "b"'), '"a \\"b\\""')

    def test_values(self):
        for value, due in (
            (None, "none"), (0, "0"), (5, "5"), (-5, "-5"), (10, "10"), (10 ** 9, "1000000000"), (-10 ** 9, "-1000000000"),
            ("", '""'), ("a", '"a"'), (" ", '" "'), ("none", '"none"'), ("5", '"5"'), ("/", '"/"'), ("a b", '"a b"'),
            ('"', r'"\""'), ("\\", r'"\\"'), ('\\"', r'"\\\""'), ('"\\', r'"\"\\"'), ("\\\\", r'"\\\\"'), ("\\n", r'"\\n"'),
            ("~", '"~"'), ("'", '"\'"'), ("x" * 20, '"' + "x" * 20 + '"'),
        ):
            with self.subTest(value=value):
                self.assertEqual(value_text(value), due)

    def test_in_another_way(self):
        for value in (*STRINGS, *["".join(signs) for many in range(5) for signs in itertools.product('a"\\ ', repeat=many)]):
            self.assertEqual(value_text(value), plain_value_text(value))

    def test_by_name(self):
        self.assertEqual(value_text(value=None), "none")


class MarkTextTest(unittest.TestCase):

    def test_marks(self):
        for mark, due in (
            (START, "start"), (END, "end"), (("before", (7,)), "before 7"), (("after", (7,)), "after 7"),
            (("before", (5, 1)), "before 5 1"), (("after", (None, 10 ** 6)), "after none 1000000"),
            (("after", ("a b", -3, None, "", 2)), 'after "a b" -3 none "" 2'), (("before", ('"\\', 9)), r'before "\"\\" 9'),
            (("before", ("/", 1)), 'before "/" 1'),
        ):
            self.assertEqual(mark_text(mark), due)

    def test_by_name(self):
        self.assertEqual(mark_text(mark=END), "end")


class RowTextTest(unittest.TestCase):

    def test_rows(self):
        for delivered, due in (
            (((5, 1), (5,)), "5 1 : 5"), (((1,), (5,)), "1 : 5"), (((1,), ()), "1 :"), (((5, 1), ()), "5 1 :"),
            (((None, "a", 10 ** 6), (0, "b c", None)), 'none "a" 1000000 : 0 "b c" none'),
            (((":", 2), (":",)), '":" 2 : ":"'), ((("", 2), ("", "")), '"" 2 : "" ""'),
            ((("\\", '"', -1, 0, 3), ('"\\',)), r'"\\" "\"" -1 0 3 : "\"\\"'),
        ):
            self.assertEqual(row_text(delivered), due)

    def test_by_name(self):
        self.assertEqual(row_text(delivered=((5, 1), (5,))), "5 1 : 5")


class TokenTextTest(unittest.TestCase):

    def test_example(self):
        self.assertEqual(token_text(("top", VIEW, 3, 2), "recent"), "t 3 recent 2 667")

    def test_check_numbers_worked_out_by_hand(self):
        # t 30, space 37, 0 1, space 37, a 11, space 37, 0 1, each times its place.
        self.assertEqual(30 + 2 * 37 + 3 + 4 * 37 + 5 * 11 + 6 * 37 + 7, 539)
        self.assertEqual(token_text(("top", NONE, 0, 0), "a"), "t 0 a 0 539")
        # z has the weight 36 and 9 the weight 10: 30 + 74 + 30 + 148 + 180 + 222 + 70 = 754.
        self.assertEqual(token_text(("top", NONE, 9, 9), "z"), "t 9 z 9 754")
        # 30 + 74 + 3 + 148 + 180 + 222 + 70 + 80 + 90 = 897; one digit more: 997 leaves 0.
        self.assertEqual(token_text(("top", NONE, 0, 999), "z"), "t 0 z 999 897")
        self.assertEqual(token_text(("top", NONE, 0, 9999), "z"), "t 0 z 9999 0")
        self.assertEqual(token_text(("top", NONE, 0, 99999), "z"), "t 0 z 99999 110")

    def test_window_tokens(self):
        for token, name, due in (
            (("window", VIEW, 3, START, END), "recent", "w 3 recent start / end"),
            (("window", VIEW, 0, START, ("after", (7, 2))), "a", "w 0 a start / after 7 2"),
            (("window", NONE, 12, ("before", (7,)), ("after", (7,))), "abcdefgh", "w 12 abcdefgh before 7 / after 7"),
            (("window", PAIR, 1, ("after", ("a / b", None, 7)), END), "w", 'w 1 w after "a / b" none 7 / end'),
            (("window", VIEW, 10 ** 60 - 1, ("before", ('"', 2)), END), "t", f'w {"9" * 60} t before "\\"" 2 / end'),
        ):
            self.assertEqual(token_text(token, name), checked(due))

    def test_top_tokens(self):
        for version, name, count in ((0, "a", 0), (3, "recent", 10 ** 6), (10 ** 60 - 1, "abcdefgh", 1), (10, "t", 10)):
            self.assertEqual(token_text(("top", VIEW, version, count), name), checked(f"t {version} {name} {count}"))

    def test_by_name(self):
        self.assertEqual(token_text(name="recent", token=("top", VIEW, 3, 2)), "t 3 recent 2 667")


class ParseTokenTest(unittest.TestCase):

    def check_bad(self, text, views=None):
        with self.subTest(text=text):
            check_error(self, BadText, "text", text, parse_token, text, NAMED if views is None else views)

    def check_good(self, text, name, token, views=None):
        with self.subTest(text=text):
            found = parse_token(text, NAMED if views is None else views)
            self.assertEqual(repr(found), repr((name, token)))
            self.assertEqual(token_text(token, name), text)

    def sample_tokens(self):
        """Return the names of views with tokens of theirs."""
        return [
            ("recent", ("top", VIEW, 3, 2)), ("recent", ("top", VIEW, 0, 0)), ("abcdefgh", ("top", NONE, 10 ** 60 - 1, 10 ** 6)),
            ("recent", ("window", VIEW, 3, START, END)), ("w", ("window", VIEW, 0, START, START)),
            ("none", ("window", NONE, 12, ("before", (7,)), ("after", (7,)))), ("start", ("window", PAIR, 1, END, END)),
            ("pair", ("window", PAIR, 4, ("after", ("a / b", None, 7)), ("before", ("a / c", "end", 1)))),
            ("pair", ("window", PAIR, 4, ("after", (-10 ** 9, 10 ** 9, 1)), ("before", ('" / "', '\\" "\\', 10 ** 6)))),
            ("recent", ("window", VIEW, 10 ** 60 - 1, ("before", (None, 1)), ("after", ("~" * 20, 10 ** 6)))),
        ]

    def test_texts_of_tokens(self):
        for name, token in self.sample_tokens():
            self.check_good(token_text(token, name), name, token)

    def test_every_string(self):
        for first, second in itertools.product(STRINGS, STRINGS):
            token = ("window", PAIR, 3, START, ("after", (first, second, 5)))
            self.check_good(checked(f"w 3 pair start / after {plain_value_text(first)} {plain_value_text(second)} 5"), "pair", token)
        for signs in itertools.product('a"\\ ', repeat=4):
            value = "".join(signs)
            self.check_good(checked(f"w 3 recent before {plain_value_text(value)} 1 / end"), "recent",
                            ("window", VIEW, 3, ("before", (value, 1)), END))

    def test_every_text_between_quotes(self):
        good = {plain_value_text("".join(signs)): "".join(signs) for many in range(6) for signs in itertools.product('a"\\', repeat=many)}
        for many in range(6):
            for signs in itertools.product('a"\\', repeat=many):
                word = '"' + "".join(signs) + '"'
                text = checked(f"w 3 recent before {word} 1 / end")
                if word in good:
                    self.check_good(text, "recent", ("window", VIEW, 3, ("before", (good[word], 1)), END))
                else:
                    self.check_bad(text)

    def test_tokens_of_tables_with_histories(self):
        views = {name: view for name, view in zip("abcde", VIEWS)}
        for seed, name in itertools.product(range(3), views):
            table = grown(seed)
            for low, high in itertools.combinations_with_replacement(some_marks(table, views[name]), 2):
                token = ("window", views[name], seed, low, high)
                self.assertTrue(is_token(token, 2))
                self.check_good(token_text(token, name), name, token, views)

    def test_a_new_tuple_and_the_views_stay_as_they_were(self):
        views = dict(NAMED)
        found = parse_token("t 3 recent 2 667", views)
        self.assertEqual([type(part) for part in (found, *found)], [tuple, str, tuple])
        self.assertEqual(views, NAMED)

    def test_other_values(self):
        for value in any_values() + [5, None, True, b"", ("t",), ["t 3 recent 2 667"], {"t": 1}, ()]:
            self.check_bad(value)
            self.check_bad(value, {})

    def test_names_that_are_not_in_views(self):
        for text in ("t 3 recent 2 667", checked("w 3 recent start / end")):
            self.check_bad(text, {})
            self.check_bad(text, {"recen": VIEW, "Recent": VIEW, "recents": VIEW})
        for name in ("other", "", "RECENT", "recent2", "abcdefghi", '"recent"', "none2"):
            self.check_bad(checked(f"t 3 {name} 2"))
            self.check_bad(checked(f"w 3 {name} start / end"))

    def test_check_numbers_that_do_not_fit(self):
        for name, token in self.sample_tokens():
            text = token_text(token, name)
            body, number = text.rsplit(" ", 1)
            for other in (
                "", "0" + number, "+" + number, "-" + number, str(int(number) + 1), str(int(number) + 997), str(int(number) - 997),
                str((int(number) + 500) % 997), number + " ", " " + number, number + "\n", "none", f'"{number}"', "x", number + ".0",
            ):
                if other != number:
                    self.check_bad(f"{body} {other}")
            self.check_bad(body)
            self.check_bad(f"{text} {plain_check_number(text)}")

    def test_numbers(self):
        for number in ("00", "01", "+1", "-1", "-0", "", "1.0", "1_0", " 1", "a", "none", '"1"', "0x1", "1e3", "1a"):
            self.check_bad(checked(f"t {number} recent 2"))
            self.check_bad(checked(f"t 3 recent {number}"))
            self.check_bad(checked(f"w {number} recent start / end"))
            self.check_bad(checked(f"w 3 recent before 5 {number} / end"))
        for number in ("00", "01", "+1", "-0", "-01", "--1", "-", "", "1.0", "1_0", "a", "None", "NONE", "0x1", "+0", "- 1"):
            self.check_bad(checked(f"w 3 recent before {number} 1 / end"))

    def test_counts_at_and_beyond_their_bounds(self):
        for count in (0, 1, 9, 10, 999999, 10 ** 6):
            self.check_good(checked(f"t 3 recent {count}"), "recent", ("top", VIEW, 3, count))
        for count in (10 ** 6 + 1, 10 ** 7, 10 ** 60 - 1):
            self.check_bad(checked(f"t 3 recent {count}"))

    def test_ids_at_and_beyond_their_bounds(self):
        for row_id in (1, 9, 999999, 10 ** 6):
            self.check_good(checked(f"w 3 none start / after {row_id}"), "none", ("window", NONE, 3, START, ("after", (row_id,))))
        for row_id in (0, 10 ** 6 + 1, 10 ** 60 - 1):
            self.check_bad(checked(f"w 3 none start / after {row_id}"))

    def test_values_at_and_beyond_their_bounds(self):
        for value in (10 ** 9, -10 ** 9, 0, "x" * 20, "\\" * 20, " ~"):
            text = checked(f"w 3 recent start / after {plain_value_text(value)} 1")
            self.check_good(text, "recent", ("window", VIEW, 3, START, ("after", (value, 1))))
        for word in ("1000000001", "-1000000001", '"' + "x" * 21 + '"', '"' + "\\\\" * 21 + '"', "9" * 60, '"a\nb"', '"', '"a'):
            self.check_bad(checked(f"w 3 recent start / after {word} 1"))

    def test_versions_of_many_digits(self):
        for version in (10 ** 9, 10 ** 9 + 1, 10 ** 60 - 1, int("123456789" * 6)):
            self.check_good(checked(f"t {version} recent 2"), "recent", ("top", VIEW, version, 2))
            self.check_good(checked(f"w {version} recent start / end"), "recent", ("window", VIEW, version, START, END))
        # More digits than Python's own int takes.
        self.assertEqual(parse_token(checked("t " + "9" * 5000 + " recent 2"), NAMED)[1][2], 10 ** 5000 - 1)
        self.check_bad(checked("t 0" + "9" * 5000 + " recent 2"))
        self.check_bad(checked("t 3 recent " + "9" * 5000))

    def test_a_low_mark_after_the_high_one(self):
        for low, high in (
            ("end", "start"), ("after 5 1", "before 5 1"), ("end", "after 5 1"), ("before 5 1", "start"),
            ("before 5 2", "before 5 1"), ("before 10 1", "before 9 1"), ('before "a" 1', "before 9 1"), ("after 0 1", "after none 1"),
        ):
            self.check_bad(checked(f"w 3 recent {low} / {high}"))
            parse_token(checked(f"w 3 recent {high} / {low}"), NAMED)
        # The second column of this order is descending.
        self.check_bad(checked("w 3 pair before 5 1 1 / before 5 2 1"))
        parse_token(checked("w 3 pair before 5 2 1 / before 5 1 1"), NAMED)

    def test_marks_that_are_none(self):
        for mark in (
            "", "start 1", "end 5 1", "before", "after", "before 5", "after 1", "before 5 1 1", "Start", "before 5 none", "5 1",
            "between 5 1", "before 5  1", "before none", 'before 5 "1"', "before1 5 1", "start end", "before / 1", "start start",
            "before ( 1", "start /", "/ start",
        ):
            self.check_bad(checked(f"w 3 recent {mark} / end"))
            self.check_bad(checked(f"w 3 recent start / {mark}"))

    def test_other_forms(self):
        for body in (
            "", " ", "t", "w", "t 3", "t 3 recent", "t 3 recent 2 2", "w 3 recent", "w 3 recent start", "w 3 recent start /",
            "w 3 recent start end", "w 3 recent / start end", "w 3 recent / ", "w 3 recent /", "w 3 recent start / end end",
            "x 3 recent 2", "T 3 recent 2", "W 3 recent start / end", "top 3 recent 2", "window 3 recent start / end",
            "t 3 recent start / end", "w 3 recent 2", "3 t recent 2", "t recent 3 2", "s 3 recent start / end",
            " t 3 recent 2", "t  3 recent 2", "t 3  recent 2", "t 3 recent  2", "t 3 recent 2 ", "w 3 recent start  / end",
            "w 3 recent start /end", "w 3 recent start / end ", "w 3 recent start\n/ end", "t\n3 recent 2", "t\t3 recent 2",
            'w 3 recent before "a 1 / end', 'w 3 recent before a" 1 / end', 'w 3 recent before "a"b 1 / end',
            'w 3 recent before "a""b" 1 / end', "w 3 recent before 'a' 1 / end", "w 3 recent before a 1 / end",
            r'w 3 recent before "a\" 1 / end', r'w 3 recent before "\a" 1 / end', 'w 3 recent start "/" end',
            "w 3 recent start // end", "w 3 recent start / end /", "w 3 recent start / / end",
        ):
            self.check_bad(checked(body))
        for text in ("", " ", "0", "1", "539", "\n", "t 3 recent 2 667\n", "\nt 3 recent 2 667", " t 3 recent 2 667", "t 3 recent 2 667 "):
            self.check_bad(text)

    def changed_texts(self, text, maker):
        """Return texts that differ from a text in one character, or in one word."""
        signs = ' 019az"\\/-~A\n'
        for place in range(len(text) + 1):
            yield text[:place] + text[place + 1:]
            yield text[:place] + text[place:place + 1] + text[place:]
            for sign in maker.sample(signs, 4):
                yield text[:place] + sign + text[place + 1:]
                yield text[:place] + sign + text[place:]
        words = text.split(" ")
        for place, other in itertools.combinations(range(len(words)), 2):
            swapped = list(words)
            swapped[place], swapped[other] = words[other], words[place]
            yield " ".join(swapped)
        for place in range(len(words)):
            yield " ".join(words[:place] + words[place + 1:])
            yield " ".join(words[:place + 1] + words[place:])

    def check_changed(self, text):
        """Check that a text is refused, or is the text of another token to the character."""
        try:
            name, token = parse_token(text, NAMED)
        except BadText as error:
            self.assertEqual(error.text, text)
            return False
        self.assertTrue(is_token(token, 2))
        self.assertEqual(token[1], NAMED[name])
        self.assertEqual(checked(token_text(token, name).rsplit(" ", 1)[0]), text)
        return True

    def test_changed_texts(self):
        maker = random.Random(3)
        refused = fitting = 0
        for name, token in self.sample_tokens():
            text = token_text(token, name)
            for other in self.changed_texts(text, maker):
                if other != text and not self.check_changed(other):
                    refused += 1
            for other in self.changed_texts(text.rsplit(" ", 1)[0], maker):
                fitting += self.check_changed(checked(other))
        self.assertGreater(refused, 1000)
        self.assertGreater(fitting, 100)

    def test_the_errors_keep_the_whole_text(self):
        text = checked('w 3 recent before "a" 01 / end')
        views = copy.deepcopy(NAMED)
        with self.assertRaises(BadText) as caught:
            parse_token(text, views)
        self.assertIs(caught.exception.text, text)
        self.assertEqual(views, NAMED)

    def test_by_name(self):
        self.assertEqual(parse_token(views=NAMED, text="t 3 recent 2 667"), ("recent", ("top", VIEW, 3, 2)))


if __name__ == "__main__":
    unittest.main()
