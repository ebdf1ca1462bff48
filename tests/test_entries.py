import copy
import random
import unittest

from frameland.entries import Entries
from frameland.shapes import Shape

FAR = 10 ** 59 + 3


def page(task, number):
    return ("task", task, number)


def place(bank, number):
    return ("bank", bank, number)


class EntriesCase(unittest.TestCase):
    def told(self, entries, tasks, banks):
        rows = {task: (entries.told_task(task), entries.table_count(task)) for task in tasks}
        # A copy, so that lists told and then changed are seen to be changed.
        return copy.deepcopy((rows, {bank: entries.told_bank(bank) for bank in banks}, entries.told_book()))

    def opened(self, places=4):
        """Task 0 with pages 1, 5 and 9, task 1 with page 5, all remembered; bank 0 of three pages."""
        entries = Entries(Shape(2, 2, 0), places)
        entries.open_task(0)
        entries.open_task(1)
        entries.open_bank(0, 3)
        for task, number in ((0, 1), (0, 5), (1, 5), (0, 9)):
            entries.put(page(task, number), 100 + number)
            entries.remember(task, number)
        return entries


class OpenTest(EntriesCase):
    def test_what_is_opened_is_without_entries(self):
        for places in (0, 1, 64):
            entries = Entries(Shape(3, 2, 0), places)
            self.assertEqual(entries.told_book(), [None] * places)
            self.assertIsNone(entries.open_task(7))
            self.assertIsNone(entries.open_bank(7, 64))
            self.assertEqual((entries.told_task(7), entries.table_count(7)), ([], 1))
            self.assertEqual(entries.told_bank(7), [None] * 64)
            self.assertIsNone(entries.look(page(7, 63)))
            self.assertIsNone(entries.look(place(7, 63)))
            self.assertIsNone(entries.recall(7, 0))

    def test_a_task_closed_and_opened_again(self):
        entries = self.opened()
        self.assertIsNone(entries.close_task(0))
        self.assertEqual(entries.told_book(), [None, None, (1, 5, 105, False), None])
        self.assertIsNone(entries.recall(0, 5))
        self.assertEqual(entries.told_task(1), [(5, 105)])
        entries.open_task(0)
        self.assertEqual((entries.told_task(0), entries.table_count(0)), ([], 1))
        self.assertEqual(entries.look(page(1, 5)), 105)

    def test_a_bank_closed_and_opened_again(self):
        entries = self.opened()
        entries.open_bank(1, 2)
        entries.put(place(0, 1), 5)
        entries.put(place(1, 1), 6)
        book = entries.told_book()
        self.assertIsNone(entries.close_bank(0))
        entries.open_bank(0, 4)
        self.assertEqual((entries.told_bank(0), entries.told_bank(1)), ([None] * 4, [None, 6]))
        self.assertEqual(entries.told_book(), book)


class PutTest(EntriesCase):
    def test_tasks_and_banks_of_one_number(self):
        entries = self.opened()
        self.assertIsNone(entries.put(page(0, 2), 0))
        self.assertIsNone(entries.put(place(0, 2), FAR))
        self.assertEqual((entries.look(page(0, 2)), entries.look(place(0, 2))), (0, FAR))
        self.assertIsNone(entries.look(page(1, 2)))
        self.assertEqual(entries.told_bank(0), [None, None, FAR])
        self.assertEqual(entries.told_task(0), [(1, 101), (2, 0), (5, 105), (9, 109)])
        self.assertIsNone(entries.take(place(0, 2)))
        self.assertEqual((entries.look(page(0, 2)), entries.told_bank(0)), (0, [None] * 3))
        entries.put(place(0, 0), 0)
        self.assertEqual(entries.told_bank(0), [0, None, None])

    def test_table_count(self):
        entries = self.opened()
        self.assertEqual((entries.table_count(0), entries.table_count(1)), (4, 2))
        entries.take(page(0, 5))
        self.assertEqual((entries.table_count(0), entries.table_count(1)), (3, 2))

    def test_another_entry_strikes_the_row(self):
        entries = self.opened()
        entries.use(0, 5)
        entries.put(page(0, 5), 106)
        self.assertEqual(entries.look(page(0, 5)), 106)
        self.assertIsNone(entries.recall(0, 5))
        self.assertEqual(entries.told_book(), [(0, 1, 101, False), None, (1, 5, 105, False), (0, 9, 109, False)])
        entries.remember(0, 5)
        self.assertEqual(entries.told_book()[1], (0, 5, 106, False))

    def test_the_very_same_entry_changes_nothing(self):
        entries = self.opened()
        entries.use(0, 5)
        before = self.told(entries, (0, 1), (0,))
        entries.put(page(0, 5), 105)
        self.assertEqual(self.told(entries, (0, 1), (0,)), before)
        entries.put(page(0, 7), 0)
        entries.put(place(0, 0), 9)
        entries.put(place(0, 0), 9)
        self.assertEqual(entries.told_book(), before[2])

    def test_an_entry_of_nought_and_none(self):
        entries = self.opened(9)
        entries.put(page(0, 7), 0)
        entries.remember(0, 7)
        self.assertEqual((entries.recall(0, 7), entries.told_book()[4]), (0, (0, 7, 0, False)))
        entries.put(page(0, 7), 0)
        self.assertEqual(entries.recall(0, 7), 0)
        entries.put(page(0, 7), 1)
        self.assertIsNone(entries.recall(0, 7))

    def test_taking_out_strikes_the_row(self):
        entries = self.opened()
        self.assertIsNone(entries.take(page(0, 5)))
        self.assertIsNone(entries.look(page(0, 5)))
        self.assertEqual(entries.told_book(), [(0, 1, 101, False), None, (1, 5, 105, False), (0, 9, 109, False)])
        self.assertEqual(entries.told_task(0), [(1, 101), (9, 109)])

    def test_taking_out_where_there_is_none(self):
        entries = self.opened()
        before = self.told(entries, (0, 1), (0,))
        self.assertIsNone(entries.take(page(0, 6)))
        self.assertIsNone(entries.take(page(1, 1)))
        self.assertIsNone(entries.take(place(0, 1)))
        self.assertEqual(self.told(entries, (0, 1), (0,)), before)


class BookTest(EntriesCase):
    def test_remembering_where_there_is_no_entry(self):
        entries = self.opened()
        before = entries.told_book()
        self.assertIsNone(entries.remember(0, 6))
        self.assertIsNone(entries.remember(1, 1))
        self.assertEqual(entries.told_book(), before)

    def test_remembering_again_leaves_whether_it_was_used(self):
        entries = self.opened()
        self.assertIsNone(entries.use(0, 5))
        entries.remember(0, 5)
        entries.remember(0, 9)
        self.assertEqual(entries.told_book()[1::2], [(0, 5, 105, True), (0, 9, 109, False)])

    def test_a_full_book(self):
        entries = self.opened(2)
        self.assertEqual(entries.told_book(), [(1, 5, 105, False), (0, 9, 109, False)])
        entries.use(1, 5)
        entries.remember(0, 1)
        self.assertEqual(entries.told_book(), [(1, 5, 105, False), (0, 1, 101, False)])
        self.assertIsNone(entries.recall(0, 9))
        self.assertEqual(entries.recall(0, 1), 101)

    def test_recalling_changes_nothing_and_using_where_there_is_none(self):
        entries = self.opened()
        before = entries.told_book()
        self.assertEqual((entries.recall(0, 5), entries.recall(1, 5), entries.recall(1, 1)), (105, 105, None))
        entries.use(1, 1)
        self.assertEqual(entries.told_book(), before)

    def test_a_book_of_no_places(self):
        entries = self.opened(0)
        self.assertEqual((entries.told_book(), entries.recall(0, 5)), ([], None))
        entries.use(0, 5)
        entries.put(page(0, 5), 7)
        self.assertEqual(entries.look(page(0, 5)), 7)


class WholeTest(EntriesCase):
    def test_every_row_is_the_entry_that_is_there(self):
        for seed in range(12):
            chance = random.Random(seed)
            places = chance.choice((0, 1, 3, 8))
            entries, plain, remembered = Entries(Shape(2, 2, 0), places), {}, {}
            opened = {"task": set(), "bank": set()}
            for deed in range(300):
                kind = chance.choice(("task", "task", "bank"))
                number, where = chance.randrange(3), chance.randrange(6)
                holder = (kind, number, where)
                if number not in opened[kind]:
                    opened[kind].add(number)
                    entries.open_task(number) if kind == "task" else entries.open_bank(number, 6)
                elif chance.random() < 0.05:
                    opened[kind].remove(number)
                    entries.close_task(number) if kind == "task" else entries.close_bank(number)
                    plain = {key: entry for key, entry in plain.items() if key[:2] != (kind, number)}
                    remembered = {key: True for key in remembered if kind == "bank" or key[0] != number}
                else:
                    self.do_one(chance, entries, plain, remembered, holder)
                self.check(entries, plain, remembered, opened)

    def do_one(self, chance, entries, plain, remembered, holder):
        deed = chance.choice(("put", "put", "take", "remember", "remember"))
        entry = chance.randrange(2)
        if deed == "put":
            entries.put(holder, entry)
            if plain.get(holder) != entry:
                remembered.pop(holder[1:], None) if holder[0] == "task" else None
            plain[holder] = entry
        elif deed == "take":
            entries.take(holder)
            plain.pop(holder, None)
            remembered.pop(holder[1:], None) if holder[0] == "task" else None
        elif holder[0] == "task":
            entries.remember(holder[1], holder[2])
            if holder in plain:
                remembered[holder[1:]] = True

    def check(self, entries, plain, remembered, opened):
        for task in opened["task"]:
            rows = sorted((key[2], entry) for key, entry in plain.items() if key[:2] == ("task", task))
            self.assertEqual(entries.told_task(task), rows)
        for bank in opened["bank"]:
            self.assertEqual(entries.told_bank(bank), [plain.get(("bank", bank, number)) for number in range(6)])
        rows = [row for row in entries.told_book() if row is not None]
        for task, number, entry, used in rows:
            self.assertEqual(entry, plain[("task", task, number)])
            self.assertEqual(entries.recall(task, number), entry)
        told = {(task, number) for task, number, entry, used in rows}
        self.assertLessEqual(told, set(remembered))
        # A full book may have let the others go.
        for key in [key for key in remembered if key not in told]:
            remembered.pop(key)

    def test_a_book_that_is_never_full_forgets_nothing(self):
        chance = random.Random(5)
        entries, plain, remembered = Entries(Shape(2, 2, 0), 64), {}, {}
        entries.open_task(0)
        entries.open_task(1)
        for deed in range(500):
            self.do_one(chance, entries, plain, remembered, page(chance.randrange(2), chance.randrange(16)))
            told = {row[:2] for row in entries.told_book() if row is not None}
            self.assertEqual(told, set(remembered))

    def test_lists_told_and_then_changed(self):
        entries = self.opened()
        entries.put(place(0, 1), 3)
        before = self.told(entries, (0, 1), (0,))
        for told in (entries.told_task(0), entries.told_bank(0), entries.told_book()):
            told[0] = 77
            told.append(5)
        self.assertEqual(self.told(entries, (0, 1), (0,)), before)
        kept = (entries.told_task(0), entries.told_bank(0), entries.told_book())
        entries.put(page(0, 1), 1)
        entries.put(place(0, 1), 1)
        self.assertEqual(kept, (before[0][0][0], before[1][0], before[2]))

    def test_two_beside_one_another(self):
        one, other = self.opened(), self.opened()
        before = self.told(other, (0, 1), (0,))
        one.put(page(0, 5), 1)
        one.put(place(0, 0), 1)
        one.close_task(1)
        self.assertEqual(self.told(other, (0, 1), (0,)), before)

    def test_arguments_bear_their_names(self):
        entries = Entries(places=2, shape=Shape(2, 2, 0))
        entries.open_task(task=0)
        entries.open_bank(many=2, bank=0)
        entries.put(entry=5, holder=page(0, 3))
        entries.remember(page=3, task=0)
        entries.use(page=3, task=0)
        self.assertEqual((entries.look(holder=page(0, 3)), entries.recall(page=3, task=0)), (5, 5))
        self.assertEqual((entries.told_task(task=0), entries.table_count(task=0)), ([(3, 5)], 2))
        self.assertEqual((entries.told_bank(bank=0), entries.told_book()), ([None, None], [(0, 3, 5, True), None]))
        entries.take(holder=page(0, 3))
        entries.close_task(task=0)
        entries.close_bank(bank=0)


if __name__ == "__main__":
    unittest.main()
