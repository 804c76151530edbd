import copy
import itertools
import random
import unittest

from steadypages import repair as repairs
from steadypages.audit import audit_copy
from steadypages.errors import BadAnswers, BadCount, BadToken, UnknownVersion
from steadypages.pages import debt_of
from steadypages.repair import Repair, check_answers, repair_copy
from steadypages.tables import Table
from histories import ALL, END, START, VIEW, VIEWS, grown, in_key_order, random_batch, some_marks, true_copy
from samples import any_values, check_error

LOW, HIGH = ("before", (0, 1)), ("after", (99, 1))
KEYS = [(5, 1), (7, 2), (9, 3)]


def keys_of(many):
    """Return ascending keys whose ids are in another order."""
    return [(place, (7 * place) % 101 + 1) for place in range(many)]


def plain_repair(low, high, keys, fresh):
    """Return the answers and the stale ids of a repair, in the words of the document.

    fresh holds the places of the keys whose rows are unchanged.
    """
    answers, stale = [], []

    def ask(first, second, places):
        answers.append((first, second, len([place for place in places if place in fresh])))
        return len(places) - answers[-1][2]

    def treat(first, second, places, number):
        if number == len(places) > 0:
            stale.extend(keys[place][-1] for place in places)
        elif number > 0:
            many = (len(places) + 1) // 2
            lower, upper = places[:many], places[many:]
            division = ("after", keys[lower[-1]])
            found = ask(first, division, lower)
            treat(first, division, lower, found)
            treat(division, second, upper, number - found)

    if keys:
        places = list(range(len(keys)))
        treat(low, high, places, ask(low, high, places))
    return answers, sorted(stale)


def least_power(many):
    power = 0
    while 2 ** power < many:
        power += 1
    return power


class FilesTest(unittest.TestCase):

    def test_class_methods_and_functions_are_defined_in_this_file(self):
        for name in ("Repair", "check_answers", "repair_copy"):
            self.assertEqual(getattr(repairs, name).__module__, "steadypages.repair")
        for name in ("__init__", "question", "answer", "stale_ids", "answers"):
            self.assertIn(name, vars(Repair))


class RepairTest(unittest.TestCase):

    def picture(self, repair):
        return (repair.question(), repair.stale_ids(), repair.answers())

    def follow(self, keys, answers):
        """Return a repair of the keys after the counts of answers, whose ranges must be those that are asked."""
        repair = Repair(LOW, HIGH, keys)
        for low, high, count in answers:
            self.assertEqual(repair.question(), (low, high))
            self.assertIsNone(repair.answer(count))
        return repair

    def test_examples(self):
        repair = Repair(START, END, KEYS)
        repair.answer(2)
        self.assertEqual(repair.question(), (START, ("after", (7, 2))))
        repair.answer(1)
        repair.answer(1)
        self.assertEqual([repair.question(), repair.stale_ids()], [None, [2]])

    def test_no_keys(self):
        repair = Repair(START, END, [])
        self.assertEqual(self.picture(repair), (None, [], []))
        for count in (0, 1, -1, None, True, *any_values()):
            check_error(self, BadCount, "count", count, repair.answer, count)
        self.assertEqual(self.picture(repair), (None, [], []))

    def test_one_key(self):
        for count, stale in ((0, [1]), (1, [])):
            repair = Repair(START, END, [(5, 1)])
            self.assertEqual(self.picture(repair), ((START, END), [], []))
            repair.answer(count)
            self.assertEqual(self.picture(repair), (None, stale, [(START, END, count)]))

    def test_all_or_none_are_stale(self):
        for many in (1, 2, 3, 7, 8, 9, 40):
            keys = keys_of(many)
            for count, stale in ((0, sorted(key[1] for key in keys)), (many, [])):
                repair = Repair(LOW, HIGH, keys)
                repair.answer(count)
                self.assertEqual(self.picture(repair), (None, stale, [(LOW, HIGH, count)]))

    def test_a_lower_half_is_the_greater_one(self):
        for many, lower in ((2, 1), (3, 2), (4, 2), (5, 3), (7, 4), (8, 4), (9, 5), (40, 20), (41, 21)):
            repair = Repair(LOW, HIGH, keys_of(many))
            repair.answer(1)
            self.assertEqual(repair.question(), (LOW, ("after", keys_of(many)[lower - 1])))

    def test_a_repair_step_by_step(self):
        keys = [(value, 10 - value) for value in range(1, 8)]
        repair = Repair(START, END, keys)
        marks = [("after", key) for key in keys]
        for question, count, stale in (
            ((START, END), 4, []),
            ((START, marks[3]), 2, []),
            ((START, marks[1]), 1, []),
            # The upper half of the first two has the rest of their count, the stale row is known.
            ((START, marks[0]), 1, [8]),
            # The second pair has 1 of 2.
            ((marks[1], marks[2]), 0, [7, 8]),
            # The upper half of all has 2 of 3.
            ((marks[3], marks[5]), 2, [3, 7, 8]),
        ):
            self.assertEqual(repair.question(), question)
            repair.answer(count)
            self.assertEqual(repair.stale_ids(), stale)
        self.assertIsNone(repair.question())
        self.assertEqual(repair.answers(), [
            (START, END, 4), (START, marks[3], 2), (START, marks[1], 1), (START, marks[0], 1),
            (marks[1], marks[2], 0), (marks[3], marks[5], 2),
        ])

    def test_an_upper_half_is_finished_after_its_lower_half(self):
        keys = [(value, value) for value in range(1, 9)]
        repair = Repair(START, END, keys)
        repair.answer(3)
        # The upper half is all stale, but the lower half has parts that are not finished.
        repair.answer(3)
        self.assertEqual(repair.stale_ids(), [])
        self.assertEqual(repair.question(), (START, ("after", (2, 2))))
        repair.answer(2)
        self.assertEqual(repair.stale_ids(), [])
        self.assertEqual(repair.question(), (("after", (2, 2)), ("after", (3, 3))))
        repair.answer(1)
        self.assertEqual(self.picture(repair)[:2], (None, [4, 5, 6, 7, 8]))

    def test_a_question_repeated(self):
        repair = Repair(START, END, KEYS)
        for _ in range(3):
            self.assertEqual(repair.question(), (START, END))
        repair.answer(1)
        for _ in range(3):
            self.assertEqual(repair.question(), (START, ("after", (7, 2))))
        self.assertEqual(repair.answers(), [(START, END, 1)])

    def test_every_set_of_stale_rows(self):
        for many in range(1, 10):
            keys = keys_of(many)
            for number in range(2 ** many):
                fresh = [place for place in range(many) if number >> place & 1]
                answers, stale = plain_repair(LOW, HIGH, keys, fresh)
                repair = self.follow(keys, answers)
                self.assertEqual(self.picture(repair), (None, stale, answers))
                self.assertEqual(stale, sorted(keys[place][1] for place in range(many) if place not in fresh))
                self.check_number(many, len(stale), len(answers))

    def check_number(self, many, stale, asked):
        self.assertLessEqual(asked, many)
        self.assertLessEqual(asked, 1 + least_power(many) * min(stale, many - stale))

    def test_many_rows(self):
        maker = random.Random(1)
        for many in (16, 17, 31, 33, 64, 100):
            keys = keys_of(many)
            for part in (0.02, 0.1, 0.5, 0.9, 0.98):
                fresh = {place for place in range(many) if maker.random() < part}
                answers, stale = plain_repair(LOW, HIGH, keys, fresh)
                repair = self.follow(keys, answers)
                self.assertEqual(self.picture(repair), (None, stale, answers))
                self.check_number(many, len(stale), len(answers))

    def test_stale_ids_and_answers_after_every_count(self):
        keys = keys_of(9)
        for number in range(0, 2 ** 9, 7):
            fresh = [place for place in range(9) if number >> place & 1]
            answers, stale = plain_repair(LOW, HIGH, keys, fresh)
            repair, before = Repair(LOW, HIGH, keys), []
            for place, (low, high, count) in enumerate(answers):
                repair.answer(count)
                self.assertEqual(repair.answers(), answers[:place + 1])
                known = repair.stale_ids()
                self.assertEqual(known, sorted(known))
                self.assertLessEqual(set(before), set(known))
                self.assertLessEqual(set(known), set(stale))
                before = known
            self.assertEqual(before, stale)

    def possible_counts(self, keys):
        """Return the dict from the answers so far to the counts that some set of unchanged rows gives next."""
        possible = {}
        for number in range(2 ** len(keys)):
            fresh = [place for place in range(len(keys)) if number >> place & 1]
            answers = tuple(plain_repair(LOW, HIGH, keys, fresh)[0])
            for place, (_, _, count) in enumerate(answers):
                possible.setdefault(answers[:place], set()).add(count)
            possible.setdefault(answers, set())
        return possible

    def test_every_count_at_every_question(self):
        for many in (1, 2, 3, 5, 8, 9):
            keys = keys_of(many)
            for answers, possible in self.possible_counts(keys).items():
                repair = self.follow(keys, answers)
                before = self.picture(repair)
                self.assertEqual(possible == set(), repair.question() is None)
                for count in range(-2, many + 3):
                    if count not in possible:
                        check_error(self, BadCount, "count", count, repair.answer, count)
                self.assertEqual(self.picture(repair), before)
                for count in possible:
                    self.assertIsNone(self.follow(keys, answers).answer(count))

    def test_counts_of_an_upper_half_that_are_not_possible(self):
        repair = Repair(START, END, [(value, value) for value in range(1, 8)])
        repair.answer(5)
        # The lower half has 4 rows, the upper one 3.
        for count in (0, 1, 5, -1):
            check_error(self, BadCount, "count", count, repair.answer, count)
        repair.answer(2)
        repair = Repair(START, END, [(value, value) for value in range(1, 8)])
        repair.answer(2)
        for count in (3, 4, -1):
            check_error(self, BadCount, "count", count, repair.answer, count)
        repair.answer(0)

    def test_values_that_are_no_counts(self):
        repair = Repair(START, END, KEYS)
        for answered in ((), (2,), (2, 1), (2, 1, 1)):
            if answered:
                repair.answer(answered[-1])
            before = self.picture(repair)
            for count in [True, False, None, "", "1", (), (1,), [], [1], {}, {1: 1}, 10 ** 60 - 1, -1] + any_values():
                if type(count) is int and 0 <= count <= 3:
                    continue
                with self.subTest(answered=answered, count=count):
                    check_error(self, BadCount, "count", count, repair.answer, count)
                    self.assertEqual(self.picture(repair), before)

    def test_a_count_behind_the_end(self):
        repair = Repair(START, END, KEYS)
        repair.answer(3)
        for count in (0, 1, 3):
            check_error(self, BadCount, "count", count, repair.answer, count)
        self.assertEqual(self.picture(repair), (None, [], [(START, END, 3)]))

    def test_a_repair_copies_what_it_is_given_and_gives(self):
        keys = list(KEYS)
        repair = Repair(START, END, keys)
        keys.clear()
        repair.answer(2)
        repair.answers().clear()
        repair.stale_ids().append(1)
        self.assertEqual(self.picture(repair), ((START, ("after", (7, 2))), [], [(START, END, 2)]))
        keys = list(KEYS)
        repair = Repair(START, END, keys)
        repair.answer(0)
        self.assertEqual(keys, KEYS)
        self.assertEqual([type(part) for part in (repair.answers(), repair.stale_ids())], [list, list])
        self.assertIs(type(repair.answers()[0]), tuple)

    def test_by_name(self):
        repair = Repair(keys=KEYS, high=END, low=START)
        repair.answer(count=1)
        self.assertEqual(repair.answers(), [(START, END, 1)])


class CheckAnswersTest(unittest.TestCase):

    def check(self, index, answers, keys=tuple(KEYS), low=START, high=END):
        before = copy.deepcopy(answers)
        with self.subTest(answers=answers):
            check_error(self, BadAnswers, "index", index, check_answers, low, high, list(keys), answers)
            self.assertEqual(repr(answers), repr(before))

    def test_answers_of_finished_repairs(self):
        for many in (0, 1, 2, 3, 7, 8, 9):
            keys = keys_of(many)
            for number in range(0, 2 ** many, 1 + many // 3):
                fresh = [place for place in range(many) if number >> place & 1]
                answers, stale = plain_repair(LOW, HIGH, keys, fresh)
                before = copy.deepcopy((keys, answers))
                found = check_answers(LOW, HIGH, keys, answers)
                self.assertIs(type(found), list)
                self.assertEqual(found, stale)
                self.assertEqual((keys, answers), before)

    def test_no_keys(self):
        self.assertEqual(check_answers(START, END, [], []), [])
        for item in any_values() + [(START, END, 0)]:
            self.check(0, [item], ())

    def test_one_item_changed(self):
        whole, lower = (START, END, 2), (START, ("after", (7, 2)), 1)
        last = (START, ("after", (5, 1)), 1)
        self.assertEqual(check_answers(START, END, KEYS, [whole, lower, last]), [2])
        for index, item in (
            (0, (START, END, 4)), (0, (START, END, -1)), (0, (START, START, 2)), (0, (END, END, 2)), (0, (END, START, 2)),
            (1, (START, ("after", (7, 2)), 3)), (1, (START, ("after", (7, 2)), 0)), (1, (START, ("after", (5, 1)), 1)),
            (1, (START, ("before", (7, 2)), 1)), (1, (START, END, 1)), (1, (("after", (7, 2)), END, 1)),
            (1, (("before", (5, 1)), ("after", (7, 2)), 1)), (1, (START, ("after", (7, 3)), 1)),
            (2, (START, ("after", (5, 1)), 2)), (2, (START, ("after", (5, 1)), -1)), (2, (START, ("after", (7, 2)), 1)),
            (2, (("after", (5, 1)), ("after", (7, 2)), 0)), (2, (START, END, 1)),
            (2, (START, ("after", (5, (1,))), 1)), (2, (START, ("after", ((5,), 1)), 1)), (2, (START, ("after", [5, 1]), 1)),
            (2, (START, ("after", (5, 1, 1)), 1)), (2, (START, ("after", (5,)), 1)), (2, (START, ("after", 5, 1), 1)),
            (2, (START, ("after", (5, "1")), 1)), (2, (START, ("after", (5, None)), 1)), (2, (START, "after", 1)),
        ):
            answers = [whole, lower, last]
            answers[index] = item
            self.check(index, answers)
        self.assertEqual(check_answers(START, END, KEYS, [whole, lower, (*last[:2], 0)]), [1])
        # A count that is possible can leave too many answers, or too few.
        self.check(1, [(START, END, 3), lower, last])
        self.check(1, [(START, END, 0), lower, last])
        self.check(2, [whole, (*lower[:2], 2), last])
        self.check(3, [(START, END, 1), lower, last, last])

    def test_one_item_removed_added_or_doubled(self):
        for fresh in ([0, 2], [1], [0, 3, 4], [2, 5, 6], [0, 1, 2, 3, 4, 6]):
            keys = keys_of(7)
            answers, _ = plain_repair(LOW, HIGH, keys, fresh)
            for place in range(len(answers)):
                removed = answers[:place] + answers[place + 1:]
                self.check(place, removed, keys, LOW, HIGH)
                self.check(place + 1, answers[:place + 1] + answers[place:], keys, LOW, HIGH)
                self.check(place, answers[:place], keys, LOW, HIGH)
                for value in any_values():
                    self.check(place, answers[:place] + [value] + answers[place:], keys, LOW, HIGH)
            self.check(len(answers), answers + [answers[-1]], keys, LOW, HIGH)
            self.check(len(answers), answers + [None, None], keys, LOW, HIGH)
        self.check(0, [])

    def test_other_values(self):
        good = (START, END, 3)
        self.assertEqual(check_answers(START, END, KEYS, [good]), [])
        for value in any_values() + [
            [START, END, 3], (START, END), (START, END, 3, 3), ((START, END), 3), (START, END, 3, None),
            (["start"], END, 3), (START, ["end"], 3), ("start", END, 3), (START, "end", 3), (None, END, 3), (START, 0, 3),
            (START, END, [3]), (START, END, "3"), (START, END, None), (START, END, (3,)), {START: END}, ((START,), END, 3),
            (START, END, {}), ({}, END, 3), (START, {}, 3), (("start", 1), END, 3), ((), END, 3),
            ((("start",),), END, 3), ((tuple("start"),), END, 3), (START, (("end",),), 3), (START, (tuple("end"),), 3),
        ]:
            self.check(0, [value])
            self.check(1, [good, value])
            self.check(0, [value, good])
            self.check(1, [(START, END, 2), value])

    def test_bools_for_integers(self):
        self.check(0, [(START, END, True)], [(5, 1)])
        self.check(0, [(START, END, False)], [(5, 1)])
        self.assertEqual(check_answers(START, END, [(5, 1)], [(START, END, 1)]), [])
        keys = [(0, 1), (1, 2), (1, 3)]
        good = [(START, END, 1), (START, ("after", (1, 2)), 1), (START, ("after", (0, 1)), 1)]
        self.assertEqual(check_answers(START, END, keys, good), [2, 3])
        for index, item in (
            (0, (START, END, True)), (1, (START, ("after", (True, 2)), 1)), (1, (START, ("after", (1, 2)), True)),
            (2, (START, ("after", (0, True)), 1)), (2, (START, ("after", (False, 1)), 1)),
            (2, (START, ("after", (0, 1)), True)), (2, (START, ("after", (False, True)), True)),
        ):
            answers = list(good)
            answers[index] = item
            self.check(index, answers, keys)
        low, high = ("before", (0, 1)), ("after", (1, 3))
        self.check(0, [(("before", (False, 1)), high, 3)], keys, low, high)
        self.check(0, [(low, ("after", (True, 3)), 3)], keys, low, high)
        self.assertEqual(check_answers(low, high, keys, [(low, high, 3)]), [])

    def test_by_name(self):
        self.assertEqual(check_answers(answers=[(START, END, 0)], keys=KEYS, high=END, low=START), [1, 2, 3])


class RepairCopyTest(unittest.TestCase):

    def table(self):
        table = Table(("size",))
        table.change_rows([("put", row_id, (row_id * 2,)) for row_id in range(1, 9)])
        return table

    def check(self, table, token, rows, at):
        """Check the repair of a copy; return its answers."""
        before = copy.deepcopy(rows)
        result = repair_copy(table, token, rows, at)
        self.assertEqual([type(part) for part in (result, *result)], [tuple, dict, tuple, list])
        repaired, new, answers = result
        self.assertEqual(rows, before)
        self.assertEqual(list(rows), list(before))
        self.assertEqual(new, (*token[:2], at, *token[3:]))
        self.assertEqual(repaired, true_copy(table, new))
        self.assertEqual(audit_copy(table, new, repaired), [])
        changes = table.changes_at(at)
        unchanged = [row_id for row_id in rows if changes.get(row_id, at + 1) <= token[2]]
        keys = [row[0] for row in in_key_order(token[1], rows.values())]
        fresh = [place for place, key in enumerate(keys) if key[-1] in unchanged]
        due, stale = plain_repair(*token[3:], keys, fresh)
        self.assertEqual(answers, due)
        self.assertEqual(check_answers(*token[3:], keys, answers), stale)
        self.assertEqual(sorted([*stale, *unchanged]), sorted(rows))
        return answers

    def test_nothing_changed(self):
        table = self.table()
        token = ("window", VIEW, 1, START, END)
        rows = true_copy(table, token)
        self.assertEqual(self.check(table, token, rows, 1), [(START, END, 8)])
        table.put_row(9, (1,))
        self.assertEqual(self.check(table, token, rows, 2), [(START, END, 8)])

    def test_rows_changed_removed_added_and_moved(self):
        for batch in (
            [("put", 3, (7,))], [("drop", 3)], [("put", 9, (7,))], [("put", 3, (50,))], [("put", 3, (0,))],
            [("drop", row_id) for row_id in range(1, 9)], [("put", row_id, (40 - row_id,)) for row_id in range(1, 9)],
            [("drop", 1), ("put", 8, (1,)), ("put", 20, (9,)), ("put", 4, (9,))],
        ):
            for low, high in (
                (START, END), (START, ("after", (6, 3))), (("before", (6, 3)), ("before", (13, 1))), (("after", (6, 3)), END),
                (END, END), (("before", (2, 1)), ("after", (2, 1))),
            ):
                table = self.table()
                token = ("window", VIEW, 1, low, high)
                rows = true_copy(table, token)
                table.change_rows(batch)
                self.check(table, token, rows, 2)
                # The token's version need not be known.
                table.forget_before(2)
                self.check(table, token, rows, 2)

    def test_rows_that_are_changed_back_are_asked_for_again(self):
        table = self.table()
        token = ("window", VIEW, 1, START, END)
        rows = true_copy(table, token)
        table.put_row(1, (0,))
        table.put_row(1, (2,))
        answers = self.check(table, token, rows, 3)
        self.assertEqual([count for low, high, count in answers], [7, 3, 1, 0])
        self.assertEqual(debt_of(table, token), [])

    def test_an_empty_copy(self):
        table = self.table()
        for mark in (START, END, ("before", (6, 3))):
            token = ("window", VIEW, 0, mark, mark)
            self.assertEqual(self.check(table, token, {}, 1), [])
        table.forget_before(1)
        self.assertEqual(self.check(table, ("window", VIEW, 0, START, END), {}, 1), [])

    def test_every_two_versions(self):
        for seed, view in itertools.product(range(5), VIEWS):
            table = grown(seed + 800, 8, 9)
            for low, high in itertools.combinations_with_replacement(some_marks(table, view)[::3], 2):
                for version in range(9):
                    token = ("window", view, version, low, high)
                    rows = true_copy(table, token)
                    for at in range(version, 9):
                        self.check(table, token, rows, at)

    def test_versions_that_are_not_known_any_more(self):
        for seed, view in itertools.product(range(10), VIEWS):
            maker = random.Random(seed)
            table = grown(seed + 900, 8, 9)
            marks = some_marks(table, view)
            tokens = []
            for version in range(9):
                low, high = sorted(maker.choices(range(len(marks)), k=2))
                token = ("window", view, version, marks[low], marks[high])
                tokens.append((token, true_copy(table, token)))
            table.fold_to([maker.randrange(9), maker.randrange(9)])
            for _ in range(3):
                for token, rows in tokens:
                    for at in table.known_versions():
                        if at >= token[2]:
                            self.check(table, token, rows, at)
                table.change_rows(random_batch(maker, 9))
                table.fold_to([])

    def test_a_copy_in_another_order(self):
        table = self.table()
        token = ("window", VIEW, 1, START, END)
        rows = true_copy(table, token)
        table.change_rows([("put", 2, (0,)), ("drop", 7)])
        due = repair_copy(table, token, rows, 2)
        self.assertEqual(repair_copy(table, token, {row_id: rows[row_id] for row_id in (8, 3, 1, 2, 7, 6, 5, 4)}, 2), due)

    def test_a_descending_view(self):
        table = self.table()
        token = ("window", (ALL, ((0, True),), (0,)), 1, ("after", (14, 7)), ("before", (4, 2)))
        rows = true_copy(table, token)
        self.assertEqual(sorted(rows), [3, 4, 5, 6])
        table.change_rows([("put", 3, (9,)), ("put", 8, (5,)), ("drop", 6)])
        answers = self.check(table, token, rows, 2)
        self.assertEqual(answers, [
            (("after", (14, 7)), ("before", (4, 2)), 2), (("after", (14, 7)), ("after", (10, 5)), 1),
            (("after", (14, 7)), ("after", (12, 6)), 0), (("after", (10, 5)), ("after", (8, 4)), 1),
        ])

    def test_top_tokens(self):
        table = self.table()
        for at in (1, 99, None):
            token = ("top", VIEW, 1, 3)
            check_error(self, BadToken, "token", token, repair_copy, table, token, {}, at)

    def test_a_version_that_is_not_known(self):
        table = self.table()
        table.put_row(1, (0,))
        table.fold_to([])
        for at in (0, 1, 3, 10 ** 60 - 1, *any_values()):
            token = ("window", VIEW, 0, START, END)
            check_error(self, UnknownVersion, "version", at, repair_copy, table, token, {}, at)

    def test_the_copy_that_is_passed_is_not_the_one_that_is_returned(self):
        table = self.table()
        token = ("window", VIEW, 1, START, END)
        rows = true_copy(table, token)
        repair_copy(table, token, rows, 1)[0].clear()
        self.assertEqual(len(rows), 8)
        self.assertEqual(table, self.table())

    def test_by_name(self):
        token = ("window", VIEW, 0, START, START)
        self.assertEqual(repair_copy(at=1, rows={}, token=token, table=self.table()), ({}, (*token[:2], 1, *token[3:]), []))


if __name__ == "__main__":
    unittest.main()
