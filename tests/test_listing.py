import functools
import itertools
import random
import unittest

from steadypages import listing
from steadypages.conditions import matches
from steadypages.errors import BadCount, UnknownVersion
from steadypages.listing import Listing, listing_of
from steadypages.marks import is_between
from steadypages.tables import Table
from steadypages.views import compare_keys, key_of
from samples import any_values, check_error

ALL = ("all",)
START, END = ("start",), ("end",)
UP = (ALL, ((0, False),), ())
DOWN = (ALL, ((0, True),), (0,))
ORDERS = (
    (), ((0, False),), ((0, True),), ((1, True), (0, False)), ((0, False), (1, False), (2, True)),
    ((3, True), (2, True), (1, False), (0, True)),
)
VALUES = (None, -5, 0, 7, "", "a", "ab")


class ListingTest(unittest.TestCase):

    def check(self, found, view, changes, others=(), versions=(0, 1, 2, 3, 4)):
        """Check a listing against the dict of its keys and their change versions; others are keys not in it."""
        compared = functools.cmp_to_key(lambda first, second: compare_keys(view, first, second))
        keys = sorted(changes, key=compared)
        marks = [START, *[(kind, key) for key in sorted({*keys, *others}, key=compared)
                          for kind in ("before", "after")], END]
        self.assertEqual(len(found), len(keys))
        for place, key in enumerate(keys):
            self.assertEqual(found.key_at(place), key)
            self.assertEqual(found.rank_of(("before", key)), place)
            self.assertEqual(found.rank_of(("after", key)), place + 1)
        for place in (-1, -2, len(keys), len(keys) + 1, 10 ** 60 - 1):
            check_error(self, BadCount, "count", place, found.key_at, place)
        for mark in marks:
            before = [key for key in keys if is_between(view, key, START, mark)]
            after = [key for key in keys if is_between(view, key, mark, END)]
            self.assertEqual(found.rank_of(mark), len(before))
            for limit in (0, 1, 2, len(keys), len(keys) + 5):
                self.assertEqual(found.keys_after(mark, limit), after[:limit])
                self.assertEqual(found.keys_before(mark, limit), before[::-1][:limit])
        for low, high in itertools.combinations_with_replacement(marks, 2):
            between = [key for key in keys if is_between(view, key, low, high)]
            self.assertEqual(found.count_between(low, high), len(between))
            for version in versions:
                due = len([key for key in between if changes[key] <= version])
                self.assertEqual(found.unchanged_between(low, high, version), due)

    def filled(self):
        found = Listing(UP)
        for key, changed in (((5, 1), 1), ((3, 2), 2), ((5, 3), 3), ((None, 4), 1)):
            found.add_key(key, changed)
        return found

    def random_key(self, maker, order):
        return (*[maker.choice(VALUES) for _ in order], maker.randrange(1, 5))


class ClassTest(ListingTest):

    def test_class_and_methods_are_defined_in_this_file(self):
        self.assertEqual(Listing.__module__, "steadypages.listing")
        self.assertEqual(listing.listing_of.__module__, "steadypages.listing")
        for name in (
            "add_key", "drop_key", "rank_of", "key_at", "count_between", "unchanged_between", "keys_after",
            "keys_before", "__len__", "__init__",
        ):
            self.assertIn(name, vars(Listing))

    def test_examples(self):
        found = Listing(UP)
        found.add_key((5, 1), 1)
        found.add_key((3, 2), 2)
        self.assertEqual([found.rank_of(("before", (5, 1))), found.unchanged_between(START, END, 1)], [1, 1])
        found = Listing(UP)
        found.add_key((5, 1), 1)
        check_error(self, BadCount, "count", 1, found.key_at, 1)

    def test_empty(self):
        for order in ORDERS:
            view = (ALL, order, ())
            others = [(*[5] * len(order), 1), (*["a"] * len(order), 2)]
            self.check(Listing(view), view, {}, others)

    def test_by_name(self):
        found = Listing(view=UP)
        self.assertIsNone(found.add_key(changed=2, key=(5, 1)))
        self.assertIsNone(found.add_key(changed=1, key=(3, 1)))
        self.assertEqual(found.rank_of(mark=END), 2)
        self.assertEqual(found.key_at(place=1), (5, 1))
        self.assertEqual(found.count_between(high=END, low=START), 2)
        self.assertEqual(found.unchanged_between(version=1, high=END, low=START), 1)
        self.assertEqual(found.keys_after(limit=1, mark=START), [(3, 1)])
        self.assertEqual(found.keys_before(limit=1, mark=END), [(5, 1)])
        self.assertIs(found.drop_key(key=(5, 1)), True)


class KeysTest(ListingTest):

    def test_keys_in_all_orders(self):
        changes = {(5, 1): 1, (3, 2): 2, (5, 3): 3, ("a", 4): 2}
        for view in (UP, DOWN):
            for keys in itertools.permutations(changes):
                found = Listing(view)
                for key in keys:
                    found.add_key(key, changes[key])
                self.check(found, view, changes, [(4, 1), (5, 2)], (0, 1, 2, 3, 4))

    def test_keys_that_are_added_again(self):
        found = self.filled()
        for key, changed in (((5, 1), 4), ((3, 2), 2), ((None, 4), 0)):
            found.add_key(key, changed)
        self.check(found, UP, {(5, 1): 4, (3, 2): 2, (5, 3): 3, (None, 4): 0}, [(5, 2)])

    def test_keys_that_are_dropped(self):
        changes = {(5, 1): 1, (3, 2): 2, (5, 3): 3, (None, 4): 1}
        for keys in itertools.permutations(changes):
            found = self.filled()
            left = dict(changes)
            for key in keys:
                self.assertIs(found.drop_key(key), True)
                del left[key]
                self.assertIs(found.drop_key(key), False)
                self.check(found, UP, left, [key])

    def test_keys_that_are_not_there(self):
        found = self.filled()
        for key in ((5, 2), (4, 1), (None, 1), ("a", 1), (5, 4), (3, 1), ("", 10 ** 6)):
            self.assertIs(found.drop_key(key), False)
        self.assertIs(Listing(UP).drop_key((5, 1)), False)
        self.check(found, UP, {(5, 1): 1, (3, 2): 2, (5, 3): 3, (None, 4): 1})

    def test_the_same_id_with_other_values_is_another_key(self):
        found = Listing(UP)
        found.add_key((5, 1), 1)
        found.add_key((6, 1), 2)
        self.check(found, UP, {(5, 1): 1, (6, 1): 2})
        self.assertIs(found.drop_key((5, 1)), True)
        self.check(found, UP, {(6, 1): 2}, [(5, 1)])

    def test_a_dropped_key_is_added_again(self):
        found = self.filled()
        found.drop_key((5, 1))
        found.add_key((5, 1), 4)
        self.check(found, UP, {(5, 1): 4, (3, 2): 2, (5, 3): 3, (None, 4): 1})

    def test_random_keys_and_views(self):
        for seed in range(60):
            maker = random.Random(seed)
            order = maker.choice(ORDERS)
            view = (ALL, order, ())
            found, changes = Listing(view), {}
            for _ in range(maker.randrange(25)):
                key = self.random_key(maker, order)
                if maker.random() < 0.3:
                    self.assertIs(found.drop_key(key), key in changes)
                    changes.pop(key, None)
                else:
                    changes[key] = maker.randrange(1, 4)
                    found.add_key(key, changes[key])
            self.check(found, view, changes, [self.random_key(maker, order) for _ in range(3)])

    def test_many_keys(self):
        maker = random.Random(3)
        ids = list(range(1, 3001))
        maker.shuffle(ids)
        found = Listing(DOWN)
        for row_id in ids:
            found.add_key((row_id // 3, row_id), row_id % 10)
        due = sorted(((row_id // 3, row_id) for row_id in ids), key=lambda key: (-key[0], key[1]))
        self.assertEqual(found.keys_after(START, 3000), due)
        self.assertEqual(found.keys_before(END, 10 ** 6), due[::-1])
        self.assertEqual([found.key_at(place) for place in range(0, 3000, 7)], due[::7])
        self.assertEqual(found.unchanged_between(START, END, 4), 1500)
        self.assertEqual(found.count_between(("after", due[99]), ("before", due[2000])), 1900)


class ReturnedValuesTest(ListingTest):

    def test_returned_lists_that_the_caller_changes(self):
        found = self.filled()
        for keys in (found.keys_after(START, 9), found.keys_before(END, 9), found.keys_after(START, 4)):
            keys[0] = None
            keys.append((9, 9))
            keys.clear()
        self.check(found, UP, {(5, 1): 1, (3, 2): 2, (5, 3): 3, (None, 4): 1})

    def test_returned_values_are_new(self):
        found = self.filled()
        self.assertIsNot(found.keys_after(START, 4), found.keys_after(START, 4))
        self.assertIsNot(found.keys_before(END, 4), found.keys_before(END, 4))
        self.assertEqual(found.key_at(0), found.key_at(0))
        self.assertIsNot(found.key_at(0), found.key_at(0))

    def test_two_listings_share_nothing(self):
        first, second = Listing(UP), Listing(UP)
        first.add_key((5, 1), 1)
        self.check(second, UP, {}, [(5, 1)])

    def test_errors_change_nothing(self):
        found = self.filled()
        for place in (-1, 4, 10 ** 60 - 1, -10 ** 60 + 1):
            check_error(self, BadCount, "count", place, found.key_at, place)
        self.check(found, UP, {(5, 1): 1, (3, 2): 2, (5, 3): 3, (None, 4): 1})


class ListingOfTest(ListingTest):

    def grown(self):
        table = Table(("size", "name"))
        table.change_rows([("put", 1, (5, "a")), ("put", 2, (7, "b")), ("put", 3, (None, "a"))])
        table.put_row(1, (6, "a"))
        table.change_rows([("drop", 2), ("put", 4, ("x", "ab"))])
        table.put_row(2, (7, "b"))
        table.put_row(1, (5, "a"))
        table.drop_row(3)
        return table

    def due(self, table, view, version):
        """Return the dict from keys to change versions that a listing has to hold."""
        rows, changes = table.rows_at(version), table.changes_at(version)
        return {
            key_of(view, row_id, values): changes[row_id]
            for row_id, values in rows.items() if matches(view[0], values)
        }

    def check_known(self, table):
        for condition in (ALL, ("not", ALL), ("less", 0, 7), ("starts", 1, "a"), ("equal", 0, 7)):
            for order in ((), ((0, False),), ((0, True),), ((1, True), (0, False))):
                view = (condition, order, (1,))
                for version in table.known_versions():
                    due = self.due(table, view, version)
                    self.check(listing_of(table, view, version), view, due, [], range(8))

    def test_known_versions(self):
        self.check_known(self.grown())
        self.check_known(Table(("size", "name")))

    def test_after_folding_and_forgetting(self):
        table = self.grown()
        table.fold_to([1, 2, 4, 5])
        self.check_known(table)
        table.forget_before(4)
        self.check_known(table)
        table.fold_to([])
        self.check_known(table)

    def test_a_condition_and_change_versions(self):
        found = listing_of(self.grown(), (("starts", 1, "a"), ((0, False),), ()), 3)
        self.assertEqual(found.keys_after(START, 9), [(None, 3), (6, 1), ("x", 4)])
        self.assertEqual([found.unchanged_between(START, END, version) for version in range(5)], [0, 1, 2, 3, 3])

    def test_versions_that_are_not_known(self):
        table = self.grown()
        table.fold_to([1, 4])
        for version in (-1, 0, 2, 3, 5, 7, 10 ** 60 - 1, True, False, None, "1", "", (1,), [1], {1: 1}):
            check_error(self, UnknownVersion, "version", version, listing_of, table, DOWN, version)
        for version in any_values():
            if version is True or version != 1:
                with self.subTest(version=version):
                    check_error(self, UnknownVersion, "version", version, listing_of, table, DOWN, version)

    def test_edits_of_the_table_change_nothing_in_the_listing(self):
        table = self.grown()
        found = listing_of(table, UP, 6)
        due = self.due(table, UP, 6)
        table.put_row(1, (99, "z"))
        table.drop_row(2)
        table.fold_to([])
        self.check(found, UP, due)

    def test_changes_of_the_listing_change_nothing_elsewhere(self):
        table = self.grown()
        first, second = listing_of(table, UP, 6), listing_of(table, UP, 6)
        due = self.due(table, UP, 6)
        first.drop_key((7, 2))
        first.add_key((5, 1), 9)
        first.add_key((1, 1), 9)
        self.check(second, UP, due)
        self.assertEqual(table, self.grown())

    def test_by_name(self):
        self.assertEqual(len(listing_of(version=1, view=UP, table=self.grown())), 3)


if __name__ == "__main__":
    unittest.main()
