import itertools
import random
import unittest

from steadypages import server as servers
from steadypages.condition_text import print_condition
from steadypages.errors import BadCommand, NameTaken, UnknownName, UnknownVersion
from steadypages.files import load_table, table_text
from steadypages.pages import catch_up, open_top, open_window, page
from steadypages.server import Server
from steadypages.tables import Table
from steadypages.texts import row_text, token_text
from histories import ALL, COLUMNS, END, START, VIEWS, random_values
from samples import any_values, check_error, plain_value_text


def started(*commands):
    """Return a server with the table items, the view recent, and the rows of the examples."""
    server = Server()
    for command in ("table items size", "view recent items size size all", "put items 1 5", "put items 2 7", *commands):
        server.say(command)
    return server


def page_lines(debt, rows, token, name):
    """Return the answer to a page, in the words of the document."""
    lines = []
    for correction in debt:
        lines.append(f"drop {correction[1]}" if correction[0] == "drop" else f"put {row_text(correction[1:])}")
    lines += [f"row {row_text(row)}" for row in rows]
    return "\n".join([*lines, f"token {token_text(token, name)}"])


class ServerTest(unittest.TestCase):

    def check_say(self, server, *pairs):
        for command, due in pairs:
            with self.subTest(command=command):
                answer = server.say(command)
                self.assertIs(type(answer), str)
                self.assertEqual(answer, due)

    def check_bad(self, server, *commands):
        for command in commands:
            with self.subTest(command=command):
                check_error(self, BadCommand, "command", command, server.say, command)

    def check_unknown_name(self, server, name, *commands):
        for command in commands:
            with self.subTest(command=command):
                check_error(self, UnknownName, "name", name, server.say, command)

    def check_unknown_version(self, server, version, *commands):
        for command in commands:
            with self.subTest(command=command):
                check_error(self, UnknownVersion, "version", version, server.say, command)

    def check_taken(self, server, name, *commands):
        for command in commands:
            with self.subTest(command=command):
                check_error(self, NameTaken, "name", name, server.say, command)


class FilesTest(unittest.TestCase):

    def test_class_and_method_are_defined_in_this_file(self):
        self.assertEqual(Server.__module__, "steadypages.server")
        for name in ("__init__", "say"):
            self.assertIn(name, vars(servers.Server))


class CommandsTest(ServerTest):

    def test_examples(self):
        server = Server()
        self.check_say(
            server, ("table items size", "ok"), ("put items 1 5", "1"), ("view recent items size size all", "ok"),
            ("top recent 3", "row 5 1 : 5\ntoken t 1 recent 3 673"),
        )
        self.check_unknown_name(Server(), "other", "put other 1 5")

    def test_edits(self):
        self.check_say(
            Server(), ("table items size name", "ok"), ('put items 1 5 "a b"', "1"), ('put items 1 5 "a b"', "1"),
            ('put items 1000000 none ""', "2"), ("drop items 2", "2"), ("drop items 1", "3"),
            ('put items 1 "\\"\\\\" -1000000000', "4"), ('put items 7 " " "  "', "5"),
            ("save items", "table size name\nknown 0 1 2 3 4 5\nedit 1 1 1 5 \"a b\"\nedit 2 1000000 2 none \"\"\nedit 3 1 gone\n"
             "edit 4 1 4 \"\\\"\\\\\" -1000000000\nedit 5 7 5 \" \" \"  \""),
        )

    def test_values_with_spaces_and_quotes(self):
        server = Server()
        server.say("table items size name")
        for place, (first, second) in enumerate(itertools.product(
            ("", " ", "a b", '"', "\\", '" "', '\\" ', "\\ ", "none", "  x", "put items", '"' * 20), repeat=2,
        )):
            command = f"put items {place + 1} {plain_value_text(first)} {plain_value_text(second)}"
            self.check_say(server, (command, str(place + 1)))
            table = load_table(server.say("save items"))
            self.assertEqual(table.rows_at(place + 1)[place + 1], (first, second))

    def test_open(self):
        server = started()
        self.check_say(server, ("open recent", token_text(("window", VIEWS[0], 2, START, START), "recent")))
        self.assertTrue(server.say("open recent").startswith("w 2 recent start / start "))

    def test_top(self):
        server = started()
        for count, rows in ((0, []), (1, ["row 5 1 : 5"]), (2, ["row 5 1 : 5", "row 7 2 : 7"]), (10 ** 6, ["row 5 1 : 5", "row 7 2 : 7"])):
            token = token_text(("top", VIEWS[0], 2, count), "recent")
            self.check_say(server, (f"top recent {count}", "\n".join([*rows, f"token {token}"])))

    def test_pages(self):
        server = started()
        first = server.say("open recent")
        second = token_text(("window", VIEWS[0], 2, START, ("after", (5, 1))), "recent")
        self.check_say(server, (f"next 1 {first}", f"row 5 1 : 5\ntoken {second}"))
        self.check_say(server, (f"next 0 {first}", f"token {first}"))
        server.say("put items 1 8")
        server.say("put items 3 0")
        last = token_text(("window", VIEWS[0], 4, START, END), "recent")
        self.check_say(
            server,
            (f"next 999999999 {second}", f"drop 1\nput 0 3 : 0\nrow 7 2 : 7\nrow 8 1 : 8\ntoken {last}"),
            (f"catch {last}", f"token {last}"),
        )
        caught = token_text(("window", VIEWS[0], 4, START, ("after", (5, 1))), "recent")
        self.check_say(server, (f"catch {second}", f"drop 1\nput 0 3 : 0\ntoken {caught}"))
        whole = token_text(("window", VIEWS[0], 3, END, END), "recent")
        moved = token_text(("window", VIEWS[0], 4, ("before", (7, 2)), END), "recent")
        self.check_say(server, (f"back 2 {whole}", f"row 8 1 : 8\nrow 7 2 : 7\ntoken {moved}"))

    def test_catch_of_a_top_token(self):
        server = started()
        token = server.say("top recent 1").split("\n")[-1].removeprefix("token ")
        server.say("drop items 1")
        new = token_text(("top", VIEWS[0], 3, 1), "recent")
        self.check_say(server, (f"catch {token}", f"drop 1\nput 7 2 : 7\ntoken {new}"), (f"catch {new}", f"token {new}"))

    def test_folding_and_forgetting(self):
        server = started("put items 3 1", "put items 3 2", "put items 3 3")
        self.check_say(
            server, ("known items", "0 1 2 3 4 5"), ("fold items 3 1 3 0", "ok"), ("known items", "0 1 3 5"),
            ("forget items 1", "ok"), ("known items", "1 3 5"), ("fold items 5", "ok"), ("known items", "5"),
            ("forget items 5", "ok"), ("known items", "5"),
            ("save items", "table size\nknown 5\nrow 1 1 5\nrow 2 2 7\nrow 3 5 3"),
        )

    def test_views(self):
        columns = ("size", "name", "color")
        for order, shown, text, view in (
            ("-", "-", "all", (ALL, (), ())),
            ("size", "size", "all", (ALL, ((0, False),), (0,))),
            ("-size", "name", "all", (ALL, ((0, True),), (1,))),
            ("name,-size", "size,color", "size < 5", (("less", 0, 5), ((1, False), (0, True)), (0, 2))),
            ("-color,-name,-size", "size,name,color", 'name starts "a b" and not size in (1, none)',
             (("and", ("starts", 1, "a b"), ("not", ("one_of", 0, (1, None)))), ((2, True), (1, True), (0, True)), (0, 1, 2))),
            ("-", "-", '  size  =  "a  b"  ', (("equal", 0, "a  b"), (), ())),
            ("-", "-", 'size = "a\\"', (("equal", 0, "a\\"), (), ())),
            ("-", "-", 'size="\\"or name="\\"', (("or", ("equal", 0, "\\"), ("equal", 1, "\\")), (), ())),
        ):
            server = Server()
            self.check_say(server, ("table items size name color", "ok"), (f"view v items {order} {shown} {text}", "ok"))
            table = Table(columns)
            for row_id, values in enumerate((
                (4, "a b", None), (5, "a  b", 7), ("a  b", "", "c"), ("a\\", "\\", 1), (None, "a b c", 2), (3, "\\", ""), ("\\", 1, 1),
            )):
                server.say(" ".join(["put items", str(row_id + 1), *map(plain_value_text, values)]))
                table.put_row(row_id + 1, values)
            rows, token = open_top(table, view, 10)
            self.check_say(server, ("top v 10", page_lines([], rows, token, "v")))
            self.check_say(server, ("open v", token_text(open_window(table, view), "v")))

    def test_orders_of_4_columns(self):
        server = Server()
        server.say("table items a b c d e f")
        self.check_say(server, ("view x items a,-b,c,-d a,b,c,d,e,f all", "ok"))
        self.check_bad(server, "view y items a,b,c,d,e - all")

    def test_tables_and_views_have_separate_names(self):
        server = started()
        self.check_say(server, ("table recent name", "ok"), ("view items items - - all", "ok"), ("view x recent name - all", "ok"))
        top, window = ("top", (ALL, ((0, False),), ()), 1, 1), ("window", (ALL, (), ()), 2, START, START)
        self.check_say(server, ("put recent 1 7", "1"), ("top x 1", page_lines([], [((7, 1), ())], top, "x")))
        self.check_say(server, ("open items", token_text(window, "items")))
        self.check_unknown_name(server, "x", "known x", "put x 1 5")

    def test_names(self):
        server = Server()
        self.check_say(
            server, ("table a size", "ok"), ("table abcdefgh size", "ok"), ("table all size", "ok"), ("table table size", "ok"),
            ("view a a - - all", "ok"), ("view abcdefgh abcdefgh - - all", "ok"), ("view start all - - all", "ok"),
            ("view w table - - all", "ok"), ("known table", "0"),
        )
        for name in ("a", "abcdefgh", "start", "w"):
            self.check_say(server, (f"catch {server.say(f'open {name}')}", f"token {server.say(f'open {name}')}"))

    def test_two_servers_share_nothing(self):
        first, second = started(), Server()
        self.check_unknown_name(second, "items", "known items", "save items", "put items 1 5")
        self.check_bad(second, f"catch {first.say('open recent')}")
        self.check_say(second, ("table items name", "ok"), ("save items", "table name\nknown 0"))
        self.check_say(first, ("known items", "0 1 2"))

    def test_by_name(self):
        self.assertEqual(Server().say(command="table items size"), "ok")


class ErrorsTest(ServerTest):

    def test_values_that_are_no_strings(self):
        server = started()
        for value in any_values() + [None, 5, True, ["known items"], ("known items",), {}]:
            if value != "known items":
                check_error(self, BadCommand, "command", value, server.say, value)

    def test_unknown_first_words(self):
        self.check_bad(
            started(), "", " ", "items", "Table x size", "TOP recent 3", "tables x size", "known\nitems", "known\titems", " known items",
            '"known" items', "page 1", "load items", "next", "say known items", "- known items", "5",
        )

    def test_wrong_numbers_of_words(self):
        # The names are not there either: the number of words is checked first.
        self.check_bad(
            Server(), "table", "table x", "view", "view v", "view v x", "view v x -", "view v x - -", "put", "put x", "put x 1",
            "drop", "drop x", "drop x 1 2", "drop x 1 ", "open", "open x y", "open x ", "top", "top x", "top x 1 2", "top x 1 ",
            "next", "next 5", "back", "back 5", "catch", "fold", "fold x", "forget", "forget x", "forget x 1 2", "forget x 1 ",
            "known", "known x y", "known x ", "save", "save x y", "save x ", "known  x", "open  x", "drop  x 1", "forget x  1",
        )

    def test_names_that_are_not_there(self):
        server = started()
        for name in ("other", "item", "itemss", "Items", "a", "abcdefgh", "abcdefghi", "recent", "", '"items"', "items\n", "size", "1", "-"):
            self.check_unknown_name(
                server, name, f"put {name} 1 5", f"drop {name} 1", f"fold {name} 1", f"forget {name} 1", f"known {name}", f"save {name}",
                f"put {name} 0 x", f"put {name} 1 5 6 7", f"drop {name} 0", f"fold {name} x", f"forget {name} x", f"forget {name} 99",
                f"view v {name} - - all", f"view v {name} x y z", f"view v {name} - -  ", f'put {name} "a b',
            )
        for name in ("other", "items", "recen", "Recent", "", "abcdefghi", '"a b"', "1"):
            self.check_unknown_name(server, name, f"open {name}", f"top {name} 1", f"top {name} x", f"top {name} 01")

    def test_names_that_are_taken(self):
        server = started("view other items - - all")
        self.check_taken(server, "items", "table items size", "table items name", "table items all", "table items size size")
        self.check_taken(server, "recent", "view recent items - - all", "view recent nothing - - all", "view recent nothing x y z",
                         "view recent items x y z")
        self.check_taken(server, "other", "view other items size size all")

    def test_new_names(self):
        server = started()
        for name in ("", "Recent", "abcdefghi", "a1", "a-b", "1", "-", '"a"', "a\n", "aB", "_", "a" * 100):
            self.check_bad(
                server, f"table {name} size", f"table {name} all", f"view {name} items - - all", f"view {name} nothing - - all",
                f"view {name} nothing x y z",
            )

    def test_columns(self):
        self.check_bad(
            started(), "table x all", "table x size size", "table x a b c d e f g", "table x Size", "table x abcdefghi", "table x ",
            "table x size ", "table x  size", "table x size  name", 'table x "size"', "table x size,name", "table x -", "table x 1",
            "table x size\n",
        )

    def test_orders_and_shown_columns(self):
        server = started("table two size name")
        for word in ("", "x", "size,size", "size,", ",size", ",", "size,,name", "--size", "-,size", "size,-", "-size,size", "Size", "items",
                     "size;name", "+size", '"size"', "1", "size,name,size", "size,x", "x,size", "none"):
            self.check_bad(server, f"view v two {word} - all", f"view v two {word} x z")
        for word in ("", "x", "size,size", "size,", ",size", ",", "-size", "size,-name", "name,size", "-,size", "size,-", "1", "size,name,name"):
            self.check_bad(server, f"view v two - {word} all")
        self.check_say(server, ("view v two name,size size,name all", "ok"))

    def test_conditions(self):
        server = started()
        for text in ("", " ", "x", "size", "size =", "all all", "name = 1", "size = 01", "size < 1000000001", "size in ()", "not", "(all",
                     'size = "a', 'size starts ""', "all or", "size = 5 and and all", "(" * 21 + "all" + ")" * 21, "not " * 8 + "all",
                     " " * 198 + "all", "size = 'a'", "size = \n5"):
            self.check_bad(server, f"view v items - - {text}")
        self.check_say(server, ("view v items - - " + "not " * 7 + "all", "ok"), ("view x items - - " + " " * 197 + "all", "ok"))

    def test_ids(self):
        server = started()
        for word in ("0", "01", "1000001", "-1", "+1", "", "x", "none", '"1"', "1.0", "1_0", "9" * 60, "9" * 5000, "1\n"):
            self.check_bad(server, f"put items {word} 5", f"drop items {word}", f"put items {word} x")
        self.check_say(server, ("put items 1000000 5", "3"), ("drop items 1000000", "4"))

    def test_values(self):
        server = started("table two size name")
        for word in ("", "x", "05", "-0", "+5", "1000000001", "-1000000001", "None", '"', '"a', 'a"', '"a"b', '"a""b"', '"\\a"', '"\\"',
                     "'a'", '"' + "x" * 21 + '"', '"a\nb"', "5\n", "5.0", "--5", "-", "gone", '"a" ', " 5", '5 "', '" 5'):
            self.check_bad(server, f"put items 1 {word}", f"put two 1 {word} 5", f"put two 1 5 {word}")
        self.check_bad(server, "put items 1 5 6", "put two 1 5", "put two 1 5 6 7", "put two 1 5  6", "put two 1 5 6 ", "put items 1 5 ",
                       "put items  1 5", "put two  1 5", 'put two 1 "5 6"')
        self.check_unknown_name(server, "", "put  items 1 5")
        self.check_say(server, ('put two 1 "5 6" 7', "1"))

    def test_counts(self):
        server = started()
        token = server.say("open recent")
        for word in ("", "x", "01", "00", "-1", "+1", "1000000000", "9999999999", "none", '"1"', "1.0", "1_0", "9" * 60, "9" * 5000, "1\n"):
            self.check_bad(server, f"top recent {word}", f"next {word} {token}", f"back {word} {token}", f"next {word} x")
        self.check_bad(server, "top recent 1000001", "top recent 999999999")
        self.check_say(server, (f"next 999999999 {token}", server.say(f"next 3 {token}")))
        self.assertEqual(server.say("top recent 1000000").split("\n")[:2], ["row 5 1 : 5", "row 7 2 : 7"])
        self.check_bad(server, f"next  5 {token}", f"next 5  {token}", f"next {token}", f"next {token} 5", f"next 5 {token} ", f"catch  {token}",
                       f"catch {token} ", f"catch 5 {token}", f"open {token}")

    def test_versions_in_commands(self):
        server = started()
        for word in ("", "x", "01", "00", "-1", "+1", "1000000000", "9999999999", "none", '"1"', "9" * 60, "1\n", "a b"):
            self.check_bad(server, f"fold items {word}", f"fold items 1 {word}", f"fold items 99 {word}", f"fold items {word} 99")
            self.check_bad(server, f"forget items {word}")
        self.check_unknown_version(server, 999999999, "fold items 999999999", "forget items 999999999", "fold items 1 999999999 3")
        self.check_unknown_version(server, 3, "fold items 3", "forget items 3", "fold items 0 3 4", "fold items 3 0")
        self.check_say(server, ("known items", "0 1 2"), ("fold items 0", "ok"))
        self.check_unknown_version(server, 1, "fold items 0 1", "forget items 1", "fold items 1 9")
        self.check_say(server, ("known items", "0 2"))

    def test_tokens(self):
        server = started("table other size", "view else other - - all")
        window, top = server.say("open recent"), server.say("top recent 1").split("\n")[-1].removeprefix("token ")
        for text in ("", "x", window[:-1], window + "0", window.replace("recent", "other"), window.replace("start", "end", 1), "w 2 recent",
                     token_text(("window", VIEWS[0], 2, START, START), "nothing"), token_text(("window", VIEWS[1], 2, START, ("after", (7,))), "recent"),
                     token_text(("window", VIEWS[0], 2, START, ("after", (5, 1))), "else"), token_text(("window", VIEWS[0], 2, END, START), "recent"),
                     token_text(("top", VIEWS[0], 2, 10 ** 6 + 1), "recent"), "token " + window):
            self.check_bad(server, f"next 1 {text}", f"back 1 {text}", f"catch {text}")
        self.check_bad(server, f"next 1 {top}", f"back 1 {top}", f"next 0 {top}")
        self.assertEqual(server.say(f"catch {top}"), f"token {top}")

    def test_versions_of_tokens(self):
        server = started("put items 3 1", "put items 3 2", "fold items 0 3")
        for version in (1, 2, 5, 10 ** 9, 10 ** 60 - 1):
            window = token_text(("window", VIEWS[0], version, START, ("after", (5, 1))), "recent")
            top = token_text(("top", VIEWS[0], version, 1), "recent")
            self.check_unknown_version(server, version, f"next 1 {window}", f"back 1 {window}", f"next 0 {window}", f"catch {window}", f"catch {top}")
            # A word that is wrong counts before the version.
            self.check_bad(server, f"next 1000000000 {window}", f"next 1 {top}", f"back 01 {window}")
        window = token_text(("window", VIEWS[0], 3, START, ("after", (5, 1))), "recent")
        self.assertEqual(server.say(f"next 1 {window}").split("\n")[:2], ["put 2 3 : 2", "row 7 2 : 7"])

    def test_spaces_between_quotes(self):
        server = started("table two size name")
        self.check_say(server, ('put two 1 "a b" "c  d"', "1"), ('put two 2 " " " "', "2"), ('put two 3 "\\" \\"" "\\\\"', "3"))
        self.check_unknown_name(server, "nothing", 'drop nothing "a b"', 'put nothing "a b" "c d"', 'forget nothing "1 2"')
        self.check_unknown_name(server, '"a b"', 'open "a b"', 'known "a b"', 'save "a b"')
        # Behind a quote that has no end, spaces separate words: there are too many.
        self.check_bad(server, 'drop nothing " 1', 'top nothing "a b', 'known " "x y"')
        self.check_bad(server, 'drop items "1 2"', 'fold items "1 2"', 'put two 1 "a b"', 'put items 1 "a b" "c d"')

    def test_a_command_that_raises_an_error_changes_nothing(self):
        server = started("fold items 0 1")
        token = server.say("open recent")
        before = (server.say("save items"), server.say("top recent 9"), server.say(f"next 1 {token}"))
        for command in (
            "table items name", "table x size all", "view recent items - - all", "view v items - - x", "view v nothing - - all",
            "put items 0 5", "put items 1 x", "put items 1 5 6", "put nothing 1 5", "drop items 0", "drop items 1 2", "fold items 0 x",
            "fold items 0 9", "fold items 9 x", "forget items 9", "forget items x", "top recent x", "next x " + token, "next 1 x", "known x",
            "save x", "open x", "", None, [], "put  items 1 9", "put items 1 9 ", "table  x size",
        ):
            with self.assertRaises((BadCommand, UnknownName, NameTaken, UnknownVersion)):
                server.say(command)
            self.assertEqual((server.say("save items"), server.say("top recent 9"), server.say(f"next 1 {token}")), before)
        self.check_unknown_name(server, "x", "known x")
        self.check_unknown_name(server, "v", "open v")


class SessionsTest(ServerTest):
    """Sessions of many commands, whose answers are worked out beside the server."""

    def start(self, maker):
        self.server, self.tables, self.views, self.tokens = Server(), {}, {}, []
        for name in ("items", "other"):
            self.check_say(self.server, (f"table {name} {' '.join(COLUMNS)}", "ok"))
            self.tables[name] = Table(COLUMNS)
        for place, view in enumerate(VIEWS):
            for table in ("items", "other"):
                name = table[0] + "vwxyz"[place]
                order = ",".join(("-" if descending else "") + COLUMNS[column] for column, descending in view[1]) or "-"
                shown = ",".join(COLUMNS[column] for column in view[2]) or "-"
                self.check_say(self.server, (f"view {name} {table} {order} {shown} {print_condition(view[0], COLUMNS)}", "ok"))
                self.views[name] = (table, view)

    def edit(self, maker):
        name = maker.choice(list(self.tables))
        row_id, values = maker.randrange(1, 8), random_values(maker)
        if maker.random() < 0.7:
            words = " ".join(plain_value_text(value) for value in values)
            self.check_say(self.server, (f"put {name} {row_id} {words}", str(self.tables[name].put_row(row_id, values))))
        else:
            self.check_say(self.server, (f"drop {name} {row_id}", str(self.tables[name].drop_row(row_id))))

    def keep(self, maker):
        """Fold or forget versions, but not often."""
        name = maker.choice(list(self.tables))
        table = self.tables[name]
        known = table.known_versions()
        if maker.random() < 0.2:
            kept = [version for version in known if maker.random() < 0.8] or known
            table.fold_to(kept)
            self.check_say(self.server, (f"fold {name} {' '.join(map(str, kept))}", "ok"))
        elif maker.random() < 0.2:
            table.forget_before(known[len(known) // 3])
            self.check_say(self.server, (f"forget {name} {known[len(known) // 3]}", "ok"))
        known = " ".join(str(version) for version in table.known_versions())
        self.check_say(self.server, (f"known {name}", known), (f"save {name}", table_text(table)))

    def take_token(self, maker):
        name = maker.choice(list(self.views))
        table, view = self.tables[self.views[name][0]], self.views[name][1]
        if maker.random() < 0.5:
            token = open_window(table, view)
            self.check_say(self.server, (f"open {name}", token_text(token, name)))
        else:
            count = maker.randrange(6)
            rows, token = open_top(table, view, count)
            self.check_say(self.server, (f"top {name} {count}", page_lines([], rows, token, name)))
        self.tokens.append((name, token))

    def use_token(self, maker):
        if not self.tokens:
            return
        name, token = maker.choice(self.tokens)
        table = self.tables[self.views[name][0]]
        text = token_text(token, name)
        count, back = maker.choice((0, 1, 2, 3, 50)), maker.random() < 0.5
        command = f"{'back' if back else 'next'} {count} {text}"
        if token[2] not in table.known_versions():
            self.check_unknown_version(self.server, token[2], f"catch {text}")
            if token[0] == "window":
                self.check_unknown_version(self.server, token[2], command)
        elif token[0] == "top" or maker.random() < 0.3:
            debt, token = catch_up(table, token)
            self.check_say(self.server, (f"catch {text}", page_lines(debt, [], token, name)))
        else:
            debt, rows, token = page(table, token, count, back=back)
            self.check_say(self.server, (command, page_lines(debt, rows, token, name)))
        self.tokens.append((name, token))

    def test_sessions(self):
        for seed in range(25):
            maker = random.Random(seed)
            self.start(maker)
            for _ in range(80):
                maker.choice((self.edit, self.edit, self.take_token, self.use_token, self.use_token, self.keep))(maker)


if __name__ == "__main__":
    unittest.main()
