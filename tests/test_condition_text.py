import random
import re
import unittest

from steadypages import condition_text
from steadypages.condition_text import parse_condition, print_condition
from steadypages.conditions import is_condition
from steadypages.errors import BadCondition
from samples import any_values, check_error

COLUMNS = ("size", "name")
ALL = ("all",)
SIZE = ("equal", 0, 1)
NAME = ("starts", 1, "a")


class TextTest(unittest.TestCase):

    def check(self, text, condition, columns=COLUMNS):
        with self.subTest(text=text):
            self.assertEqual(parse_condition(text, columns), condition)

    def check_bad(self, position, text, columns=COLUMNS):
        with self.subTest(text=text):
            check_error(self, BadCondition, "position", position, parse_condition, text, columns)

    def check_bad_at_sign(self, text, columns=COLUMNS):
        """Check a text in which a ^ stands in front of what is wrong and is no part of the text."""
        self.assertEqual(text.count("^"), 1)
        self.check_bad(text.index("^"), text.replace("^", ""), columns)


class FilesTest(unittest.TestCase):

    def test_functions_are_defined_in_this_file(self):
        for name in ("parse_condition", "print_condition"):
            self.assertEqual(getattr(condition_text, name).__module__, "steadypages.condition_text")


class ParseFormsTest(TextTest):

    def test_examples(self):
        self.check('size < 5 or not name starts "a"', ("or", ("less", 0, 5), ("not", ("starts", 1, "a"))))
        self.check_bad(9, "size in ()", ("size",))

    def test_all(self):
        for text in ("all", " all", "all ", "  all  ", "(all)", " ( all ) ", "((all))"):
            self.check(text, ALL)

    def test_tests_without_spaces_and_with_spaces(self):
        for condition, tokens in (
            (("equal", 0, 5), ["size", "=", "5"]),
            (("equal", 0, -5), ["size", "=", "-5"]),
            (("equal", 1, None), ["name", "=", "none"]),
            (("equal", 1, "a b"), ["name", "=", '"a b"']),
            (("equal", 1, ""), ["name", "=", '""']),
            (("less", 0, 0), ["size", "<", "0"]),
            (("less", 1, None), ["name", "<", "none"]),
            (("less", 1, "b"), ["name", "<", '"b"']),
            (("starts", 1, "ab"), ["name ", "starts", '"ab"']),
            (("one_of", 0, (5,)), ["size ", "in", "(", "5", ")"]),
            (("one_of", 0, (5, None, "", -1)), ["size ", "in", "(", "5", ",", "none", ",", '""', ",", "-1", ")"]),
            (("one_of", 0, (1, 1)), ["size ", "in", "(", "1", ",", "1", ")"]),
        ):
            self.check("".join(tokens), condition)
            self.check(" ".join(tokens), condition)
            self.check("   ".join(["", *tokens, ""]), condition)
            for place in range(len(tokens) + 1):
                parts = tokens[:place] + ["  "] + tokens[place:]
                self.check("".join(parts), condition)

    def test_not_and_or_with_spaces_as_few_as_possible(self):
        self.check("not(all)", ("not", ALL))
        self.check("(all)and(all)or(all)", ("or", ("and", ALL, ALL), ALL))
        self.check("size=1and name<2or not size=3", (
            "or", ("and", SIZE, ("less", 1, 2)), ("not", ("equal", 0, 3)),
        ))
        self.check('name="a"and name starts"b"or name in("c")', (
            "or", ("and", ("equal", 1, "a"), ("starts", 1, "b")), ("one_of", 1, ("c",)),
        ))
        self.check("  not  all  and  all  or  all  ", ("or", ("and", ("not", ALL), ALL), ALL))

    def test_every_character_of_a_string(self):
        for code in range(ord(" "), ord("~") + 1):
            sign = chr(code)
            if sign != '"':
                self.check(f'name = "{sign}"', ("equal", 1, sign))
                self.check(f'name starts "{sign}"', ("starts", 1, sign))
        self.check('name = "  "', ("equal", 1, "  "))
        self.check('name = "\\"', ("equal", 1, "\\"))
        self.check('name = "( all ) or size < 5"', ("equal", 1, "( all ) or size < 5"))

    def test_every_column(self):
        columns = ("a", "b", "c", "d", "e", "f")
        for place, name in enumerate(columns):
            self.check(f"{name} = 1", ("equal", place, 1), columns)

    def test_by_name(self):
        self.assertEqual(parse_condition(columns=("size",), text="size = 1"), SIZE)


class ParseLongestMatchTest(TextTest):

    def test_words(self):
        self.check_bad_at_sign("^notall")
        self.check_bad_at_sign("^allall")
        self.check_bad_at_sign("all ^andall")
        self.check_bad_at_sign("size = ^nonesize")
        self.check_bad_at_sign('name ^startsa "b"')
        self.check("allx = 1", ("equal", 0, 1), ("allx",))
        self.check("nota = 1", ("equal", 1, 1), ("a", "nota"))

    def test_numbers(self):
        self.check("size = 12", ("equal", 0, 12))
        self.check_bad_at_sign("size = 1 ^2")
        self.check_bad_at_sign("size = 1^-2")
        self.check_bad_at_sign("size = ^- 2")
        self.check_bad_at_sign("size = ^--2")
        self.check_bad_at_sign("size = -2^-")
        self.check("size = 2or size = 1", ("or", ("equal", 0, 2), SIZE))
        self.check_bad_at_sign("size = 2^x")

    def test_strings(self):
        self.check('name = "a"or name = "b"', ("or", ("equal", 1, "a"), ("equal", 1, "b")))
        self.check_bad_at_sign('name = "a"^"b"')
        self.check_bad_at_sign('name = "a" ^""')


class ParseBindingTest(TextTest):

    def test_and_binds_before_or(self):
        a, b, c = SIZE, ALL, NAME
        self.check('size = 1 or all and name starts "a"', ("or", a, ("and", b, c)))
        self.check('size = 1 and all or name starts "a"', ("or", ("and", a, b), c))
        self.check('(size = 1 or all) and name starts "a"', ("and", ("or", a, b), c))
        self.check('size = 1 and (all or name starts "a")', ("and", a, ("or", b, c)))
        self.check("all and all or all and all", ("or", ("and", ALL, ALL), ("and", ALL, ALL)))

    def test_association_to_the_left(self):
        for kind in ("and", "or"):
            self.check(f'size = 1 {kind} all {kind} name starts "a"', (kind, (kind, SIZE, ALL), NAME))
            self.check(f'size = 1 {kind} (all {kind} name starts "a")', (kind, SIZE, (kind, ALL, NAME)))
            self.check(f"(size = 1 {kind} all) {kind} all", (kind, (kind, SIZE, ALL), ALL))

    def test_not_binds_first(self):
        self.check("not size = 1 and all", ("and", ("not", SIZE), ALL))
        self.check("not size = 1 or all", ("or", ("not", SIZE), ALL))
        self.check("all and not size = 1 or all", ("or", ("and", ALL, ("not", SIZE)), ALL))
        self.check("not (size = 1 and all)", ("not", ("and", SIZE, ALL)))
        self.check("not (size = 1 or all)", ("not", ("or", SIZE, ALL)))
        self.check("not not all", ("not", ("not", ALL)))
        self.check("not (not (all))", ("not", ("not", ALL)))


class ParseAnyValueTest(TextTest):

    def test_values_that_are_no_strings(self):
        for value in any_values():
            if not isinstance(value, str):
                self.check_bad(0, value)
        for value in ([["all"]], ("all",), b"all", None, 0, 200, True):
            self.check_bad(0, value)

    def test_strings(self):
        for value in any_values():
            if isinstance(value, str) and value != "all":
                with self.subTest(value=value), self.assertRaises(BadCondition):
                    parse_condition(value, COLUMNS)

    def test_newlines(self):
        for text in ("^\n", "^\nall", "all^\n", "size ^\n= 1", "size = 1^\n", "all and ^\nall", "   ^\n"):
            self.check_bad_at_sign(text)
        for text in ('name = ^"\n"', 'name = ^"a\nb"', 'name starts ^"a\n"', 'name in ("a", ^"\nb")', 'all ^"\n"'):
            self.check_bad_at_sign(text)
            self.check_bad_at_sign(text + " all")
            self.check_bad_at_sign(text + " and")

    def test_lengths(self):
        for many in (197, 198, 199, 200):
            self.check("all" + " " * (many - 3), ALL)
            self.check(" " * (many - 3) + "all", ALL)
        self.check_bad(200, "all" + " " * 198)
        self.check_bad(200, " " * 201)
        self.check_bad(200, "?" * 201)
        self.check_bad(200, "\n" * 201)
        self.check_bad(200, "size = 007" + " " * 191)
        self.check_bad(200, "x" * 1000)
        self.check_bad(0, "?" * 200)
        self.check_bad(200, " " * 200)
        self.check_bad(199, " " * 199)
        self.check_bad(199, " " * 199 + "?")
        self.check_bad(196, " " * 196 + "none")


class ParseParenthesesTest(TextTest):

    def test_20_and_21(self):
        self.check("(" * 20 + "all" + ")" * 20, ALL)
        self.check_bad(20, "(" * 21 + "all" + ")" * 21)
        self.check_bad(20, "(" * 21)
        self.check_bad(20, "(" * 90)
        self.check_bad(40, "( " * 21 + "all" + " )" * 21)
        self.check_bad(20, "(" * 20)
        self.check("(" * 19 + "size in (1)" + ")" * 19, ("one_of", 0, (1,)))

    def test_the_parenthesis_of_in_counts(self):
        self.check_bad_at_sign("(" * 20 + "size in ^(1)" + ")" * 20)
        self.check("(" * 20 + "size = 1" + ")" * 20, SIZE)
        self.check("(" * 17 + "((size in (1))and(all))" + ")" * 17, ("and", ("one_of", 0, (1,)), ALL))

    def test_an_error_before(self):
        self.check_bad_at_sign("( ^) " + "(" * 21)
        self.check_bad_at_sign("^? " + "(" * 21)
        self.check_bad_at_sign("(" * 19 + " ^) " + "(" * 21)
        self.check_bad_at_sign("(" * 20 + " ^) " + "(" * 21)

    def test_an_error_behind(self):
        self.check_bad_at_sign("(" * 20 + "^( ?")
        self.check_bad_at_sign("(" * 20 + "^( )")
        self.check_bad_at_sign("(" * 20 + "^( size = 007" + ")" * 21)

    def test_side_by_side(self):
        text = " or ".join(["(all)"] * 8)
        condition = ALL
        for _ in range(7):
            condition = ("or", condition, ALL)
        self.check(text, condition)
        self.check_bad(0, "and".join(["(all)"] * 25))
        self.check("(" * 20 + "all" + ")" * 19 + "or" + "(" * 19 + "all" + ")" * 20, ("or", ALL, ALL))
        self.check_bad_at_sign("(" * 20 + "all" + ")" * 19 + "or" + "(" * 19 + "^(all" + ")" * 21)

    def test_too_many_and_too_few(self):
        self.check_bad_at_sign("all^)")
        self.check_bad_at_sign("(all) ^)")
        self.check_bad_at_sign("((all)^")
        self.check_bad_at_sign("(all^")
        self.check_bad_at_sign("(all and (all)  ^")
        self.check_bad_at_sign("(^)")
        self.check_bad_at_sign("^)")
        self.check_bad_at_sign("(all)^(all)")
        self.check_bad_at_sign("all^(all)")
        self.check_bad_at_sign("(size = 1^,)")


class ParseFaultsTest(TextTest):

    def test_characters_at_which_no_token_starts(self):
        for sign in "?!#$%&'*+./:;>@[\\]_`{|}~ABZ":
            for before, after in (
                ("", ""), ("  ", "all"), ("all ", ""), ("all", " and all"), ("size ", "= 1"), ("size = ", ""),
                ("size = 1", ""), ("size in ", "(1)"), ("size in (", ")"), ("size in (1", ",2)"), ("not ", "all"),
                ("(", "all)"), ("(all", ")"),
            ):
                self.check_bad(len(before), before + sign + after)
        self.check_bad_at_sign("size ^> 1")
        self.check_bad_at_sign("siz^E = 1", ("siz",))
        self.check_bad_at_sign("size ^!= 1")
        self.check_bad_at_sign("size <^= 1")
        self.check_bad_at_sign("size = 1^.5")
        self.check_bad_at_sign("size = ^-")
        self.check_bad_at_sign("size = ^-a")

    def test_strings_without_an_end(self):
        for text in (
            '^"', '  ^"all', 'name = ^"', 'name = ^"abc', 'name starts ^"abc  ', 'name in (^"a)', 'name in ("a", ^"b)',
            'name = "a" or name = ^"b', 'all^"', 'name = "a"^"', 'name ^"',
        ):
            self.check_bad_at_sign(text)

    def test_tokens_that_cannot_follow(self):
        for text in (
            "^and", "^or all", "^=", "^< 5", "^starts", "^in", "^none", "^5", "^,", '^"a"', "^-5",
            "all ^all", "all ^not all", "all ^size = 1", "all ^= 1", "all ^5", "all ^none", 'all ^"a"', "all ^,",
            "all ^starts", "all ^in",
            "all and ^and", "all and ^or", "all or ^or", "all or ^and all", "not ^and all", "not ^)", "( ^or", "(^,",
            "all and ^5", "not ^=", "not ^in", "all and ^)",
            "size ^1", "size ^size = 1", "size ^all", "size ^not", "size ^and", "size ^none", 'size ^"a"', "size ^(",
            "size ^)", "size ^,", "size ^-5",
            "size = ^= 1", "size = ^size", "size = ^all", "size = ^(1)", "size = ^, 1", "size = ^)", "size = ^not",
            "size < ^<", "size < ^size", "size < ^starts", "size < ^in (1)", "size = ^and",
            "name starts ^5", "name starts ^none", "name starts ^name", 'name starts ^("a")', "name starts ^=",
            "size in ^1", "size in ^none", "size in ^)", "size in ^=", 'size in ^"a"', "size in ^size",
            "size in (^)", "size in (^,1)", "size in (^(1))", "size in (^size)", "size in (^all)", "size in (^=",
            "size in (1 ^2)", "size in (1,^)", "size in (1,^,2)", "size in (1^(", "size in (1^=", "size in (1 ^or",
            "size in (1 ^and 2)", "size in (1, ^size)",
            "size = 1 ^2", "size = 1 ^)", "size = 1^, 2", "size = 1 ^= 1", "size = 1 ^none", "size in (1) ^)",
            "size in (1) ^,", 'name starts "a" ^"b"', "size = none ^none",
        ):
            self.check_bad_at_sign(text)

    def test_words_that_are_no_columns(self):
        for text in (
            "^a", "^sizes = 1", "^siz = 1", "all and ^color = 1", "not ^color", "(^color)", "size = 1 or ^names = 1",
            "^true", "^xor", "^equal = 1", "size = ^nothing", "size ^less 5", "all ^xor all", "size in (^a)",
            "size ^equals 1", "^start", "^a and b",
        ):
            self.check_bad_at_sign(text)
        self.check_bad_at_sign("^name = 1", ("size",))
        self.check("name = 1", ("equal", 1, 1))

    def test_texts_that_end_early(self):
        for text in (
            "^", " ^", "   ^", "not^", "not ^", "(^", "( ^", "all and^", "all and ^", "all or  ^", "size^", "size ^",
            "size =^", "size < ^", "name starts^", "size in^", "size in ^", "size in (^", "size in (1^", "size in (1,^",
            "size in (1, 2 ^", "(all^", "(all and^", "(size = 1^", "(size in (1)^", "not not^", "all and not ^",
        ):
            self.check_bad_at_sign(text)

    def test_two_faults_in_one_text(self):
        for text in (
            "^? ?", "^? and", "^and ?", "size ^1 ?", "size ^? 1 and", "size = ^? \"a", "size = ^\"a ?", "all ^all ?",
            "all ^? all", "^color = ?", "^color = \"a", "all ^) )", "(all ^? ", "(all ^all", "size in (^? 1",
            "size in (1 ^2", "size = 1 ^2 \"", 'name ^"a" starts', "^a b ?", "^and and", "^in ()", "size in (^) ?",
        ):
            self.check_bad_at_sign(text)

    def test_names_of_columns_as_words(self):
        columns = ("equal", "less", "start", "a", "oneof", "x")
        self.check("equal = 1", ("equal", 0, 1), columns)
        self.check("less < 1", ("less", 1, 1), columns)
        self.check('start starts "a"', ("starts", 2, "a"), columns)
        self.check("a in (1)and x=2", ("and", ("one_of", 3, (1,)), ("equal", 5, 2)), columns)
        self.check("oneof = none", ("equal", 4, None), columns)
        self.check_bad_at_sign("a = ^a", columns)
        self.check_bad_at_sign("a ^a", columns)
        self.check_bad_at_sign("a = 1 ^a", columns)
        self.check_bad_at_sign("a in (^x)", columns)
        self.check_bad_at_sign("^ax = 1", columns)
        self.check_bad_at_sign('^"a" = 1', columns)


class ParseWrongValuesTest(TextTest):

    def test_numbers(self):
        for number in ("0", "1", "-1", "9", "10", "1000000000", "-1000000000", "999999999"):
            self.check(f"size = {number}", ("equal", 0, int(number)))
            self.check(f"size in (1, {number})", ("one_of", 0, (1, int(number))))
        for number in (
            "00", "01", "007", "-0", "-00", "-01", "0000000001", "1000000001", "-1000000001", "9" * 60, "-" + "9" * 60,
            "0" * 60, "1" + "0" * 150, "-01000000000", "10000000000",
        ):
            self.check_bad_at_sign(f"size = ^{number}")
            self.check_bad_at_sign(f"size<^{number}")
            self.check_bad_at_sign(f"size in (5, ^{number}, 6)")
            self.check_bad_at_sign(f"all and not (size = ^{number})")

    def test_strings(self):
        for many in (0, 1, 19, 20):
            self.check(f'name = "{"x" * many}"', ("equal", 1, "x" * many))
        for many in (21, 22, 100):
            for start in ("name = ", "name <", "name starts ", "name in (", "not name in (1,"):
                end = ")" if "(" in start else ""
                self.check_bad_at_sign(f'{start}^"{"x" * many}"{end}')
        self.check('name starts "' + "y" * 20 + '"', ("starts", 1, "y" * 20))

    def test_empty_string_behind_starts(self):
        self.check_bad_at_sign('name starts ^""')
        self.check_bad_at_sign('name starts^""')
        self.check_bad_at_sign('all or name starts  ^"" and all')
        self.check('name starts " "', ("starts", 1, " "))
        self.check('name = "" or name in ("")', ("or", ("equal", 1, ""), ("one_of", 1, ("",))))

    def test_eight_and_nine_values(self):
        self.check("size in (1,2,3,4,5,6,7,8)", ("one_of", 0, (1, 2, 3, 4, 5, 6, 7, 8)))
        self.check_bad_at_sign("size in (1,2,3,4,5,6,7,8,^9)")
        self.check_bad_at_sign("size in (1,2,3,4,5,6,7,8, ^9, 10)")
        self.check_bad_at_sign("size in (1,1,1,1,1,1,1,1 , ^none)")
        self.check_bad_at_sign("size in (1,2,3,4,5,6,7,8,^009)")
        self.check_bad_at_sign("size in (1,2,3,4,5,6,7,^08,9)")
        self.check_bad_at_sign("size in (1,2,3,4,5,6,7,8,^9,010)")
        eight = "in (1,2,3,4,5,6,7,8)"
        self.check(f"size {eight} or name {eight}", (
            "or", ("one_of", 0, (1, 2, 3, 4, 5, 6, 7, 8)), ("one_of", 1, (1, 2, 3, 4, 5, 6, 7, 8)),
        ))
        self.check_bad_at_sign(f"size {eight} or name in (1,2,3,4,5,6,7,8,^9)")

    def test_the_first_of_two_counts(self):
        self.check_bad_at_sign("size = ^01 or size = 02")
        self.check_bad_at_sign('name starts ^"" or size = 02')
        self.check_bad_at_sign('size = ^-0 or name starts ""')
        self.check_bad_at_sign(f'name = ^"{"x" * 21}" or size = 02')
        self.check_bad_at_sign("size = 1 or size = ^02 or size = 03")

    def test_a_fault_of_the_grammar_behind_counts_first(self):
        nine = "size in (1,2,3,4,5,6,7,8,9"
        for wrong in ("size = 01", "size = -0", "size < 1000000001", f'name = "{"x" * 21}"', 'name starts ""', nine + ")"):
            for fault in (" ^all", " ^)", " and^", " and ^or", "^?", ' ^"a', " or (all^", " or ^color = 1"):
                self.check_bad_at_sign(wrong + fault)
            self.check_bad_at_sign(f"{wrong} or {'(' * 20}^(all")
        self.check_bad_at_sign(nine + "^")
        self.check_bad_at_sign(nine + " ^9")
        self.check_bad_at_sign(nine + ",^)")
        self.check_bad_at_sign("size in (1,2,3,4,5,6,7,8,^)")

    def test_depths(self):
        self.check("not " * 7 + "all", self.by_not(ALL, 7))
        self.check_bad(0, "not " * 8 + "all")
        self.check_bad(0, "   " + "not " * 8 + "all")
        self.check_bad(0, "not " * 49 + "all")
        for kind in ("and", "or"):
            left = right = ALL
            for _ in range(7):
                left, right = (kind, left, ALL), (kind, ALL, right)
            self.check(f" {kind} ".join(["all"] * 8), left)
            self.check_bad(0, f" {kind} ".join(["all"] * 9))
            self.check_bad(0, f"  {kind} ".join(["all"] * 20))
            self.check(f"all {kind} (" * 7 + "all" + ")" * 7, right)
            self.check_bad(0, f"all {kind} (" * 8 + "all" + ")" * 8)
        self.check_bad(0, "size = 1 or not not not not not not not all")
        self.check("size = 1 or not not not not not not all", ("or", SIZE, self.by_not(ALL, 6)))
        self.check("(" * 20 + "not " * 7 + "all" + ")" * 20, self.by_not(ALL, 7))

    def test_wrong_values_count_before_the_depth(self):
        self.check_bad_at_sign("not " * 8 + "size = ^01")
        self.check_bad_at_sign("not " * 8 + "all ^all")
        self.check_bad_at_sign("not " * 8 + "^")

    def by_not(self, condition, times):
        for _ in range(times):
            condition = ("not", condition)
        return condition


TOKEN = re.compile(r'[a-z]+|-?[0-9]+|"[ !#-~]*"|[=<(),]')


class Follower:
    """Another way to find the first wrong token: which tokens may follow, state by state."""

    def __init__(self, columns):
        self.columns = columns
        self.state = "part"
        self.nested = 0

    def take(self, token):
        """Return whether a token may follow, and go to the state behind it."""
        is_constant = token == "none" or token[-1] in '0123456789"'
        if token == "(":
            follows = {"part": "part", "in": "first"}.get(self.state)
            self.nested += 1
            if self.nested > 20:
                return False
        elif token == ")":
            follows = "end" if self.state == "next" or self.state == "end" and self.nested > 0 else None
            self.nested -= 1
        elif self.state == "part":
            follows = "part" if token == "not" else "end" if token == "all" else None
            if token in self.columns:
                follows = "sign"
        elif self.state == "sign":
            follows = {"=": "constant", "<": "constant", "starts": "string", "in": "in"}.get(token)
        elif self.state == "constant":
            follows = "end" if is_constant else None
        elif self.state == "string":
            follows = "end" if token[0] == '"' else None
        elif self.state in ("first", "more"):
            follows = "next" if is_constant else None
        elif self.state == "next":
            follows = "more" if token == "," else None
        elif self.state == "end":
            follows = "part" if token in ("and", "or") else None
        else:
            follows = None
        self.state = follows
        return follows is not None


def first_fault(text, columns):
    """Return the index of the first fault of the grammar in a text, or None."""
    follower = Follower(columns)
    at = 0
    while True:
        while text[at:at + 1] == " ":
            at += 1
        if at == len(text):
            return None if follower.state == "end" and follower.nested == 0 else at
        found = TOKEN.match(text, at)
        if found is None or not follower.take(found.group()):
            return at
        at = found.end()


class ParseRandomTextsTest(TextTest):

    def test_first_faults_are_found_as_in_another_way(self):
        maker = random.Random(20)
        words = ["all", "not", "and", "or", "(", ")", "size", "name", "=", "<", "starts", "in", ",", "none", "5",
                 '"a"', "-3", "?", '"', "color", "(all)", "size = 1", "name in (1, 2)"]
        good = bad = 0
        for _ in range(20000):
            tokens = [maker.choice(words) for _ in range(maker.randrange(1, 8))]
            text = maker.choice(["", " "]).join(tokens)[:200]
            due = first_fault(text, COLUMNS)
            try:
                condition = parse_condition(text, COLUMNS)
            except BadCondition as error:
                self.assertEqual(error.position, due, text)
                bad += 1
            else:
                self.assertIsNone(due, text)
                self.assertTrue(is_condition(condition, 2), text)
                good += 1
        self.assertGreater(good, 300)
        self.assertGreater(bad, 3000)

    def test_good_texts_that_are_cut_or_changed(self):
        maker = random.Random(21)
        for _ in range(3000):
            text = print_condition(random_condition(maker, 4), COLUMNS)
            if len(text) > 190:
                continue
            at = maker.randrange(len(text) + 1)
            text = maker.choice([text[:at], text[at:], text[:at] + maker.choice(["?", ")", "(", " and", '"', " 5 "])
                                 + text[at:], text[:at] + text[at + 1:]])
            due = first_fault(text, COLUMNS)
            if due is None:
                continue
            self.check_bad(due, text)


def random_constant(maker):
    return maker.choice([None, 0, 1, -7, 10 ** 9, -10 ** 9, "", "a", "a b", "()", "x" * 20, "\\"])


def random_condition(maker, depth):
    kind = maker.choice(["all", "equal", "less", "starts", "one_of", "not", "and", "or", "and", "or", "not"])
    if kind in ("not", "and", "or") and depth > 1:
        return (kind, *[random_condition(maker, depth - 1) for _ in range(1 if kind == "not" else 2)])
    column = maker.randrange(2)
    if kind in ("equal", "less"):
        return (kind, column, random_constant(maker))
    if kind == "starts":
        return (kind, column, maker.choice(["a", " ", "x" * 20, ")"]))
    if kind == "one_of":
        return (kind, column, tuple(random_constant(maker) for _ in range(maker.randrange(1, 5))))
    return ALL


class PrintTest(unittest.TestCase):

    def check(self, condition, text, columns=COLUMNS):
        with self.subTest(text=text):
            self.assertEqual(print_condition(condition, columns), text)
            self.assertEqual(parse_condition(text, columns), condition)

    def test_example(self):
        self.check(("and", ALL, ("or", ALL, ("equal", 0, None))), "all and (all or size = none)", ("size",))

    def test_each_kind(self):
        self.check(ALL, "all")
        self.check(("equal", 0, 5), "size = 5")
        self.check(("equal", 1, "a"), 'name = "a"')
        self.check(("less", 0, 5), "size < 5")
        self.check(("starts", 1, "ab"), 'name starts "ab"')
        self.check(("one_of", 0, (5,)), "size in (5)")
        self.check(("one_of", 1, (5, None, "a", -1)), 'name in (5, none, "a", -1)')
        self.check(("one_of", 1, (1, 2, 3, 4, 5, 6, 7, 8)), "name in (1, 2, 3, 4, 5, 6, 7, 8)")
        self.check(("not", ALL), "not all")
        self.check(("not", ("not", ("equal", 0, 5))), "not not size = 5")
        self.check(("and", ALL, ("less", 0, 1)), "all and size < 1")
        self.check(("or", ("less", 0, 1), ALL), "size < 1 or all")

    def test_values(self):
        for value, text in (
            (None, "none"), (0, "0"), (-1, "-1"), (-10 ** 9, "-1000000000"), (10 ** 9, "1000000000"), ("", '""'),
            (" ", '" "'), ("a b  c", '"a b  c"'), (" a ", '" a "'), ("none", '"none"'), ("5", '"5"'),
            ("(a, b)", '"(a, b)"'), ("\\", '"\\"'), ("'", '"\'"'), ("x" * 20, '"' + "x" * 20 + '"'),
        ):
            self.check(("equal", 0, value), f"size = {text}")
            self.check(("less", 1, value), f"name < {text}")
            self.check(("one_of", 1, (value, value)), f"name in ({text}, {text})")

    def test_strings_stand_as_they_are(self):
        self.assertEqual(print_condition(("equal", 1, 'a"b'), COLUMNS), 'name = "a"b"')
        self.assertEqual(print_condition(("starts", 1, '"'), COLUMNS), 'name starts """')

    def test_parentheses_for_every_pair_of_kinds(self):
        parts = (
            (ALL, "all"), (("equal", 0, 1), "size = 1"), (("less", 0, 1), "size < 1"),
            (("starts", 1, "a"), 'name starts "a"'), (("one_of", 0, (1, 2)), "size in (1, 2)"),
            (("not", ALL), "not all"), (("and", ALL, ALL), "all and all"), (("or", ALL, ALL), "all or all"),
        )
        wrapped = {
            ("not", ""): ("and", "or"),
            ("and", "left"): ("or",), ("and", "right"): ("and", "or"),
            ("or", "left"): (), ("or", "right"): ("or",),
        }
        for part, text in parts:
            def shown(kind, side=""):
                return f"({text})" if part[0] in wrapped[kind, side] else text
            self.check(("not", part), f"not {shown('not')}")
            for kind in ("and", "or"):
                self.check((kind, part, NAME), f'{shown(kind, "left")} {kind} name starts "a"')
                self.check((kind, NAME, part), f'name starts "a" {kind} {shown(kind, "right")}')

    def test_nested_parentheses(self):
        self.check(("not", ("and", ("or", ALL, ALL), ALL)), "not ((all or all) and all)")
        self.check(("or", ("or", ("or", ALL, ALL), ALL), ALL), "all or all or all or all")
        self.check(("or", ALL, ("or", ALL, ("or", ALL, ALL))), "all or (all or (all or all))")
        self.check(("and", ("and", ALL, ALL), ("and", ALL, ALL)), "all and all and (all and all)")
        self.check(("or", ("and", ALL, ALL), ("and", ALL, ALL)), "all and all or all and all")
        self.check(("and", ("not", ("or", ALL, ALL)), ("one_of", 0, (1,))), "not (all or all) and size in (1)")

    def test_columns(self):
        columns = ("a", "b", "c", "d", "e", "f")
        for place, name in enumerate(columns):
            self.check(("equal", place, 1), f"{name} = 1", columns)

    def test_longer_texts(self):
        condition = ("equal", 1, "x" * 20)
        for _ in range(5):
            condition = ("and", condition, condition)
        text = print_condition(condition, COLUMNS)
        self.assertGreater(len(text), 200)
        self.assertEqual(text.count('name = "' + "x" * 20 + '"'), 32)

    def test_random_conditions_are_parsed_again(self):
        maker = random.Random(22)
        parsed = 0
        for _ in range(3000):
            condition = random_condition(maker, maker.randrange(1, 9))
            text = print_condition(condition, COLUMNS)
            self.assertNotIn("  ", text.replace("a b", ""))
            if len(text) <= 200:
                self.assertEqual(parse_condition(text, COLUMNS), condition)
                parsed += 1
        self.assertGreater(parsed, 1500)

    def test_by_name(self):
        self.assertEqual(print_condition(columns=("size",), condition=SIZE), "size = 1")


if __name__ == "__main__":
    unittest.main()
