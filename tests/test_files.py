import itertools
import random
import unittest

from steadypages import files
from steadypages.changes import window_rows
from steadypages.counting import changed_rows, unchanged_count
from steadypages.errors import BadRow, BadText, UnknownVersion
from steadypages.files import load_table, table_text
from steadypages.pages import catch_up, open_top, open_window, page
from steadypages.tables import Table
from histories import COLUMNS, END, START, VIEWS, grown, random_batch
from samples import any_values, check_error, plain_value_text

STRINGS = ("", " ", "a b", '"', "\\", '\\"', '"\\', "gone", "5", "none", "~", "  ", " a", "a ", '" "', "x" * 20, '"' * 20)
# A text with every kind of line, in which each rule can be broken by itself.
WHOLE = (
    "table size name",
    "known 3 5 8",
    'row 1 1 5 "a"',
    "row 2 3 none none",
    'row 10 2 -7 ""',
    'edit 5 1 4 5 "b"',
    "edit 5 2 gone",
    'edit 5 4 5 6 "x y"',
    "edit 8 1 gone",
    'edit 8 2 6 none "\\"\\\\"',
    'edit 8 10 8 -7 ""',
)


def plain_text(table):
    """Return the text of a table, by what the methods of the interface tell."""
    known = table.known_versions()
    states = [
        {row_id: (table.changes_at(version)[row_id], *values) for row_id, values in table.rows_at(version).items()}
        for version in known
    ]
    lines = [" ".join(["table", *table.column_names()]), " ".join(["known", *["%d" % version for version in known]])]
    for row_id, state in sorted(states[0].items()):
        lines.append(" ".join(["row", str(row_id), *map(plain_value_text, state)]))
    for version, before, after in zip(known[1:], states, states[1:]):
        for row_id in sorted({*before, *after}):
            if row_id not in after:
                lines.append(f"edit {version} {row_id} gone")
            elif before.get(row_id) != after[row_id]:
                lines.append(" ".join(["edit", str(version), str(row_id), *map(plain_value_text, after[row_id])]))
    return "\n".join(lines)


def picture(table):
    """Return everything that the methods of a table tell."""
    known = table.known_versions()
    return (
        table.column_names(), table.present(), known, len(table), table.log_entries(),
        [table.rows_at(version) for version in known], [table.changes_at(version) for version in known],
    )


class FilesTest(unittest.TestCase):

    def sample_tables(self):
        """Return tables of all kinds: empty, with edits, after folding and forgetting."""
        found = [Table(("size",)), Table(("a", "b", "c", "d", "e", "f"))]
        strings = Table(COLUMNS)
        strings.change_rows([("put", place + 1, (value, place)) for place, value in enumerate(STRINGS)])
        strings.change_rows([("put", place + 1, (place, value)) for place, value in enumerate(STRINGS)])
        found.append(strings)
        values = Table(("size",))
        for value in (None, 0, 10 ** 9, -10 ** 9, 7, None):
            values.put_row(10 ** 6, (value,))
        found.append(values)
        for seed in range(12):
            table = grown(seed + 1000, 10)
            if seed % 4 == 1:
                table.fold_to([0, 3, 4, 8])
            elif seed % 4 == 2:
                table.forget_before(4)
            elif seed % 4 == 3:
                table.fold_to([2, 5, 6])
            found.append(table)
        gone = Table(("size",))
        gone.put_row(1, (5,))
        gone.drop_row(1)
        gone.forget_before(2)
        found.append(gone)
        return found

    def test_functions_are_defined_in_this_file(self):
        for name in ("table_text", "load_table"):
            self.assertEqual(getattr(files, name).__module__, "steadypages.files")


class TableTextTest(FilesTest):

    def test_example(self):
        table = Table(("size",))
        table.put_row(1, (5,))
        self.assertEqual(table_text(table), "table size\nknown 0 1\nedit 1 1 1 5")

    def test_tables_without_rows(self):
        self.assertEqual(table_text(Table(("size",))), "table size\nknown 0")
        self.assertEqual(table_text(Table(("a", "b"))), "table a b\nknown 0")
        table = Table(("size",))
        table.put_row(1, (5,))
        table.drop_row(1)
        self.assertEqual(table_text(table), "table size\nknown 0 1 2\nedit 1 1 1 5\nedit 2 1 gone")
        table.fold_to([0])
        self.assertEqual(table_text(table), "table size\nknown 0 2")
        table.fold_to([])
        self.assertEqual(table_text(table), "table size\nknown 2")

    def test_edits(self):
        table = Table(COLUMNS)
        table.change_rows([("put", 10, (5, "a")), ("put", 9, (None, 'b "c"'))])
        table.change_rows([("put", 10, (5, "a")), ("drop", 9), ("put", 1, (-1, "\\"))])
        table.put_row(9, (None, 'b "c"'))
        self.assertEqual(table_text(table), "\n".join((
            "table size name", "known 0 1 2 3", 'edit 1 9 1 none "b \\"c\\""', 'edit 1 10 1 5 "a"', 'edit 2 1 2 -1 "\\\\"',
            "edit 2 9 gone", 'edit 3 9 3 none "b \\"c\\""',
        )))
        table.fold_to([1])
        # The id 9 has the same values again, but another change version.
        self.assertEqual(table_text(table), "\n".join((
            "table size name", "known 1 3", 'row 9 1 none "b \\"c\\""', 'row 10 1 5 "a"', 'edit 3 1 2 -1 "\\\\"',
            'edit 3 9 3 none "b \\"c\\""',
        )))
        table.forget_before(3)
        self.assertEqual(table_text(table), "\n".join((
            "table size name", "known 3", 'row 1 2 -1 "\\\\"', 'row 9 3 none "b \\"c\\""', 'row 10 1 5 "a"',
        )))

    def test_in_another_way(self):
        for table in self.sample_tables():
            before = picture(table)
            self.assertEqual(table_text(table), plain_text(table))
            self.assertEqual(picture(table), before)

    def test_by_name(self):
        self.assertEqual(table_text(table=Table(("size",))), "table size\nknown 0")


class LoadTableTest(FilesTest):

    def test_a_loaded_table_is_equal_and_saves_the_same_text(self):
        for table in self.sample_tables():
            text = table_text(table)
            loaded = load_table(text)
            self.assertIsInstance(loaded, Table)
            self.assertTrue(loaded == table and table == loaded)
            self.assertEqual(picture(loaded), picture(table))
            self.assertEqual(table_text(loaded), text)

    def check_views(self, loaded, table):
        """Check that two tables give the same pages and counts."""
        for view, version in itertools.product(VIEWS, table.known_versions()):
            token = ("window", view, version, START, ("after", (*[5] * len(view[1]), 3)))
            for back in (False, True):
                self.assertEqual(page(loaded, token, 2, back=back), page(table, token, 2, back=back))
            top = ("top", view, version, 2)
            self.assertEqual(catch_up(loaded, top), catch_up(table, top))
            self.assertEqual(window_rows(loaded, view, version, START, END), window_rows(table, view, version, START, END))
            for since in range(0, version + 1, 2):
                arguments = (view, since, version, START, END)
                self.assertEqual(unchanged_count(loaded, *arguments), unchanged_count(table, *arguments))
                self.assertEqual(changed_rows(loaded, *arguments), changed_rows(table, *arguments))
        self.assertEqual(open_top(loaded, VIEWS[0], 3), open_top(table, VIEWS[0], 3))
        self.assertEqual(open_window(loaded, VIEWS[0]), open_window(table, VIEWS[0]))

    def test_a_loaded_table_goes_on_as_the_first_one_does(self):
        for seed, table in enumerate(self.sample_tables()[4:]):
            maker = random.Random(seed)
            loaded = load_table(table_text(table))
            if table.column_names() != COLUMNS:
                continue
            for _ in range(8):
                kind = maker.randrange(6)
                known = table.known_versions()
                if kind == 0:
                    kept = [version for version in known if maker.random() < 0.6]
                    found = [each.fold_to(kept) for each in (loaded, table)]
                elif kind == 1:
                    version = known[len(known) // 4]
                    found = [each.forget_before(version) for each in (loaded, table)]
                elif kind == 2:
                    version = maker.choice(known)
                    found = [each.revert_to(version) for each in (loaded, table)]
                else:
                    batch = random_batch(maker)
                    found = [each.change_rows(batch) for each in (loaded, table)]
                self.assertEqual(found[0], found[1])
                self.assertEqual(picture(loaded), picture(table))
                self.assertEqual(loaded, table)
                self.assertEqual(table_text(loaded), table_text(table))
            self.check_views(loaded, table)

    def test_a_loaded_table_raises_the_same_errors(self):
        loaded = load_table("table size\nknown 4 6\nrow 1 2 5\nedit 6 1 5 6")
        check_error(self, BadRow, "value", (0, (5,)), loaded.put_row, 0, (5,))
        for version in (0, 2, 5, 7, None, True):
            check_error(self, UnknownVersion, "version", version, loaded.rows_at, version)
        self.assertEqual(loaded.put_row(1, (6,)), 6)
        self.assertEqual(loaded.put_row(1, (7,)), 7)
        self.assertEqual(loaded.changes_at(7), {1: 7})

    def test_the_first_table_stays_as_it_was(self):
        table = grown(1)
        before = picture(table)
        loaded = load_table(table_text(table))
        loaded.put_row(1, (99, "z"))
        loaded.fold_to([])
        self.assertEqual(picture(table), before)

    def test_texts_that_edits_cannot_lead_to(self):
        for text in (
            "table size\nknown 7", "table size\nknown 0 7", "table size\nknown 1000000000", "table size\nknown 0 1000000000",
            "table size\nknown 5\nrow 1 1 5", "table size\nknown 5\nrow 1 5 5", "table size\nknown 0 9\nedit 9 1 1 5",
            "table size\nknown 1 9\nrow 1 1 5\nedit 9 1 2 5", "table size\nknown 1 9\nrow 1 1 5\nedit 9 1 9 5",
            "table size\nknown 1 4 9\nrow 1 1 5\nedit 4 1 gone\nedit 9 1 5 5", "table size\nknown 1 2 3\nedit 3 1000000 3 none",
            "table size\nknown 999999999 1000000000\nrow 1 1 5\nedit 1000000000 1 1000000000 5",
        ):
            with self.subTest(text=text):
                table = load_table(text)
                self.assertEqual(table_text(table), text)
                self.assertEqual(table.put_row(1, (77,)), table.known_versions()[-1])
        table = load_table("table size\nknown 1 9\nrow 1 1 5\nedit 9 1 2 5")
        self.assertEqual((table.changes_at(1), table.changes_at(9), table.log_entries()), ({1: 1}, {1: 2}, []))

    def check_bad(self, text):
        with self.subTest(text=text):
            check_error(self, BadText, "text", text, load_table, text)

    def check_lines(self, good, changes):
        """Check the text of WHOLE with some lines replaced: place to a line, None or several lines."""
        lines = list(WHOLE)
        for place, line in changes.items():
            lines[place] = line
        text = "\n".join(line for line in lines if line is not None)
        if good:
            with self.subTest(text=text):
                self.assertEqual(table_text(load_table(text)), text)
        else:
            self.check_bad(text)

    def test_the_whole_text(self):
        self.check_lines(True, {})
        table = load_table("\n".join(WHOLE))
        self.assertEqual(picture(table), (
            COLUMNS, 8, [3, 5, 8], 3,
            [(5, 1, (5, "a"), (5, "b")), (5, 2, (None, None), None), (5, 4, None, (6, "x y")), (8, 1, (5, "b"), None),
             (8, 2, None, (None, '"\\'))],
            [{1: (5, "a"), 2: (None, None), 10: (-7, "")}, {1: (5, "b"), 4: (6, "x y"), 10: (-7, "")},
             {2: (None, '"\\'), 4: (6, "x y"), 10: (-7, "")}],
            [{1: 1, 2: 3, 10: 2}, {1: 4, 4: 5, 10: 2}, {2: 6, 4: 5, 10: 8}],
        ))

    def test_other_values(self):
        for value in any_values() + [None, 5, True, ["table size", "known 0"], ("table size\nknown 0",), {}]:
            self.check_bad(value)

    def test_columns(self):
        for line in (
            "table", "table ", "table size", "table size name extra", "table size size", "table size all", "table Size name",
            "table size  name", " table size name", "table size name ", "Table size name", "tables size name", "size name",
            "table abcdefghi name", "table a1 name", 'table size "name"', "", "table size,name", "known 3 5 8", "table\tsize name",
        ):
            self.check_lines(False, {0: line})
        self.check_lines(True, {0: "table name size"})
        for names, good in (("a b c d e f", True), ("a b c d e f g", False), ("abcdefgh", True), ("or", False)):
            text = f"table {names}\nknown 0"
            if good:
                self.assertEqual(table_text(load_table(text)), text)
            else:
                self.check_bad(text)

    def test_known_versions(self):
        for line in (
            "known", "known ", "known 3 5", "known 5 8", "known 3 8", "known 3 8 5", "known 5 3 8", "known 3 5 5 8", "known 3 3 5 8",
            "known 03 5 8", "known 3 5 08", "known +3 5 8", "known -3 5 8", "known 3 5 8 1000000001", "known 3  5 8", "known 3 5 8 ",
            " known 3 5 8", "known 3 5 none", 'known 3 5 "8"', "Known 3 5 8", "3 5 8", "", "known 3 5 8 a", "known 3, 5 8",
            "known 0 3 5 8", "known 2 5 8", "known 4 5 8", "known 3 5 8 " + "9" * 60, "known 3 5 8 " + "9" * 5000,
        ):
            self.check_lines(False, {1: line})
        self.check_lines(True, {1: "known 3 5 8 9"})
        self.check_lines(True, {1: "known 3 5 8 1000000000"})
        # The change versions of rows that are edited are greater than the known version before.
        self.check_lines(False, {1: "known 3 4 5 8"})
        self.check_lines(False, {1: "known 3 5 6 8"})
        for text in ("", "table size", "known 0", "known 0\ntable size", "table size\n", "table size\n\nknown 0", "\ntable size\nknown 0",
                     "table size\nknown 0\n", "table size\nknown 0\n\n", "table size\nknown 0\nrow 1 0 5", "table size known 0",
                     "table size\nknown 0\nrow 1 1 5", "table size\nknown 0 1\nrow 1 1 5", "table size\nknown 0\nedit 0 1 0 5"):
            self.check_bad(text)

    def test_row_lines(self):
        for line in (
            'row 0 1 5 "a"', 'row 2 1 5 "a"', 'row 3 1 5 "a"', 'row 1000001 1 5 "a"', 'row 01 1 5 "a"', 'row -1 1 5 "a"', "row 1 1 5",
            'row 1 1 5 "a" 6', "row 1 1", "row 1", "row", 'row 1 0 5 "a"', 'row 1 4 5 "a"', 'row 1 01 5 "a"', 'row 1 -1 5 "a"',
            'row 1 +1 5 "a"', "row 1 gone", 'row 1 1 05 "a"', 'row 1 1 5 "a" ', 'row  1 1 5 "a"', ' row 1 1 5 "a"', 'Row 1 1 5 "a"',
            "row 1 1 5 a", 'row 1 1 5 "a', 'row 1 1 1000000001 "a"', 'row 1 1 5 "\\a"', 'row 1 1 5 "' + "x" * 21 + '"', 'row 1 1 5 "a"b',
            'row 1 none 5 "a"', 'row none 1 5 "a"', 'row "1" 1 5 "a"', 'row 1 1 -0 "a"', 'row 3 1 1 5 "a"', "", 'edit 3 1 1 5 "a"',
            'row 1 1 5 "a"\nrow 1 1 5 "a"', 'row 1 1 5 "a"\n', 'row 1 1 5 "a"\t', 'rows 1 1 5 "a"', 'row 1 1 "a"  5',
        ):
            self.check_lines(False, {2: line})
        for line in ('row 1 3 5 "a"', 'row 1 1 "5" none', 'row 1 2 -1000000000 ""', 'row 1 1 1000000000 "' + "x" * 20 + '"'):
            self.check_lines(True, {2: line})
        self.check_lines(True, {4: 'row 1000000 2 -7 ""'})
        self.check_lines(True, {4: None})
        # The id 2 has no row that could be gone.
        self.check_lines(False, {3: None})
        self.check_lines(False, {2: WHOLE[3], 3: WHOLE[2]})

    def test_edit_lines(self):
        for line in (
            'edit 5 1 3 5 "b"', 'edit 5 1 6 5 "b"', 'edit 5 1 0 5 "b"', 'edit 5 1 04 5 "b"', 'edit 5 2 4 5 "b"', 'edit 5 3 4 5 "b"',
            'edit 5 0 4 5 "b"', 'edit 3 1 3 5 "b"', 'edit 3 1 2 5 "b"', 'edit 4 1 4 5 "b"', 'edit 8 1 6 5 "b"', 'edit 6 1 6 5 "b"',
            'edit 05 1 4 5 "b"', 'edit 5 01 4 5 "b"', "edit 5 1 4 5", 'edit 5 1 4 5 "b" none', "edit 5 1 4", "edit 5 1", "edit 5", "edit",
            "edit 5 1 gone gone", "edit 5 1 4 gone", "edit 5 gone", "edit gone", "edit 5 1 Gone", 'edit 5 1 "gone"', "edit 5 1 none",
            'Edit 5 1 4 5 "b"', 'edit  5 1 4 5 "b"', 'edit 5 1 4 5 "b" ', 'edit 5 1 4 5 b', 'edit +5 1 4 5 "b"', 'row 1 1 5 "b"',
            'edit 5 1 -4 5 "b"', 'edit none 1 4 5 "b"', "edit 5 1 4 5 gone\nedit 5 1 gone", "edit 5 01 gone", "edit 5 0 gone", "gone 5 1",
            'edit 5 1 4 5 "b"\nedit 5 1 4 5 "b"', 'edit 5 1 gone\nedit 5 1 4 5 "b"', 'edit 0 1 1 5 "b"', "edit 5 1 gone ", "edit 5  1 gone",
        ):
            self.check_lines(False, {5: line})
        for line in ('edit 5 1 5 5 "b"', 'edit 5 1 4 5 "a"', "edit 5 1 4 none none", None):
            self.check_lines(True, {5: line})
        self.check_lines(True, {5: "edit 5 1 gone", 8: None})
        self.check_lines(True, {5: "edit 5 1 gone", 8: 'edit 8 1 6 5 "b"'})

    def test_gone_is_for_an_id_that_has_a_row(self):
        self.check_lines(False, {5: "edit 5 1 gone"})
        self.check_lines(False, {9: "edit 8 2 gone"})
        self.check_lines(False, {6: "edit 5 3 gone"})
        self.check_lines(True, {9: "edit 8 4 gone"})
        self.check_lines(True, {6: 'edit 5 2 4 none "c"', 9: "edit 8 2 gone"})
        self.check_lines(True, {6: None, 9: "edit 8 2 gone"})
        self.check_lines(True, {10: "edit 8 10 gone"})
        self.check_lines(False, {10: "edit 8 11 gone"})

    def test_lines_in_another_order(self):
        for places in itertools.combinations(range(len(WHOLE)), 2):
            lines = list(WHOLE)
            lines[places[0]], lines[places[1]] = lines[places[1]], lines[places[0]]
            self.check_bad("\n".join(lines))
        for place in range(len(WHOLE)):
            self.check_bad("\n".join(WHOLE[:place + 1] + WHOLE[place:]))
            self.check_bad("\n".join(WHOLE[:place] + ("",) + WHOLE[place:]))
            for other in range(len(WHOLE)):
                if other not in (place, place + 1):
                    lines = list(WHOLE)
                    lines.insert(other, lines.pop(place) if other < place else WHOLE[place])
                    self.check_bad("\n".join(lines))
        self.check_bad("\n".join(WHOLE) + "\n")
        self.check_bad("\n" + "\n".join(WHOLE))
        self.check_bad("\r\n".join(WHOLE))

    def check_changed(self, text):
        """Check that a text is refused, or is the text of a table to the character."""
        try:
            table = load_table(text)
        except BadText as error:
            self.assertEqual(error.text, text)
            return 0
        self.assertEqual(table_text(table), text)
        self.assertEqual(plain_text(table), text)
        return 1

    def test_changed_texts(self):
        maker = random.Random(5)
        signs = ' 0129az"\\-~\n'
        whole = "\n".join(WHOLE)
        taken = many = 0
        for text in [whole, *[table_text(table) for table in self.sample_tables()[6:12]]]:
            others = []
            for place in range(0, len(text) + 1, 1 if text == whole else 3):
                others += [text[:place] + text[place + 1:], text[:place] + text[place:place + 1] + text[place:]]
                for sign in maker.sample(signs, 4):
                    others += [text[:place] + sign + text[place + 1:], text[:place] + sign + text[place:]]
            lines = [line.split(" ") for line in text.split("\n")]
            for line, words in enumerate(lines):
                for place, word in enumerate(words):
                    for changed in ([], [word, word], [maker.choice(["gone", "none", "0", "1", "5", "9", '""', "row", "edit"])]):
                        parts = [list(each) for each in lines]
                        parts[line][place:place + 1] = changed
                        others.append("\n".join(" ".join(each) for each in parts))
            for other in others:
                if other != text:
                    many += 1
                    taken += self.check_changed(other)
        self.assertGreater(taken, 100)
        self.assertGreater(many - taken, 1000)

    def test_the_errors_keep_the_whole_text(self):
        text = "\n".join([*WHOLE, "edit 8 11 9 5 none"])
        with self.assertRaises(BadText) as caught:
            load_table(text)
        self.assertIs(caught.exception.text, text)

    def test_by_name(self):
        self.assertEqual(load_table(text="table size\nknown 0"), Table(("size",)))


if __name__ == "__main__":
    unittest.main()
