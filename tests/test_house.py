import itertools
import random
import unittest

from frameland import errors
from frameland.errors import Busy, NoBank, NoRight, NotMapped, NoTask, OutOfBank, OutOfRoom
from frameland.house import House
from frameland.shapes import Shape

GREAT = 10 ** 299 + 7


class HouseCase(unittest.TestCase):
    def told(self, house):
        tasks = {task: house.stretches_of(task) for task in house.task_list()}
        return (tasks, {bank: house.bank_size(bank) for bank in house.bank_list()})

    def refused(self, error, house, deed, *handed):
        before = self.told(house)
        with self.assertRaises(errors.FrameError) as caught:
            getattr(house, deed)(*handed)
        self.assertIs(type(caught.exception), error, (deed, handed))
        self.assertEqual(self.told(house), before)

    def furnished(self):
        """Task 0 with pages 0 to 9 mapped and page 20 tied, and banks of 4 and 64 pages; a room of 64 pages."""
        house = House(Shape(2, 3, 1))
        house.new_task()
        house.new_bank(4)
        house.new_bank(64)
        house.lay(0, 0, 10, 1)
        house.lay(0, 20, 1, 3, 0, 3)
        return house


class NumbersTest(HouseCase):
    def test_a_new_house_has_nothing_in_it(self):
        house = House(Shape(2, 1, 0))
        self.assertEqual((house.task_list(), house.bank_list()), ([], []))
        for task in (0, 1, -1, GREAT):
            self.refused(NoTask, house, "stretches_of", task)
            self.refused(NoBank, house, "bank_size", task)

    def test_the_least_free_number_of_a_task(self):
        house = House(Shape(2, 1, 0))
        self.assertEqual([house.new_task() for many in range(5)], [0, 1, 2, 3, 4])
        self.assertIsNone(house.end_task(3))
        house.end_task(1)
        self.assertEqual(house.task_list(), [0, 2, 4])
        self.assertEqual(house.fork(2), 1)
        self.assertEqual(house.new_task(), 3)
        self.assertEqual(house.new_task(), 5)
        house.end_task(0)
        self.assertEqual(house.new_task(), 0)
        self.assertEqual(house.task_list(), [0, 1, 2, 3, 4, 5])

    def test_a_new_task_has_no_page_mapped(self):
        house = self.furnished()
        house.end_task(0)
        self.assertEqual(house.new_task(), 0)
        self.assertEqual(house.stretches_of(0), [])

    def test_the_least_free_number_of_a_bank(self):
        house = House(Shape(2, 1, 0))
        self.assertEqual([house.new_bank(many) for many in (1, 64, 2, 3)], [0, 1, 2, 3])
        self.assertIsNone(house.drop_bank(1))
        house.drop_bank(0)
        self.assertEqual((house.bank_list(), house.bank_size(2)), ([2, 3], 2))
        self.assertEqual([house.new_bank(many) for many in (7, 8, 9)], [0, 1, 4])
        self.assertEqual([house.bank_size(bank) for bank in range(5)], [7, 8, 2, 3, 9])

    def test_lists_rise_whatever_came_first(self):
        house = House(Shape(2, 1, 0))
        for many in range(4):
            house.new_task()
            house.new_bank(1)
        for number in (0, 1):
            house.end_task(number)
            house.drop_bank(number)
        house.new_task()
        house.new_bank(1)
        self.assertEqual((house.task_list(), house.bank_list()), ([0, 2, 3], [0, 2, 3]))

    def test_how_many_pages_a_bank_has(self):
        house = House(Shape(2, 1, 0))
        for many in (1, 2, 63, 64):
            self.assertEqual(house.bank_size(house.new_bank(many)), many)
        for many in (0, 65, -1, -64, 66, 1000, GREAT, -GREAT):
            self.refused(OutOfBank, house, "new_bank", many)
        self.assertEqual(house.new_bank(5), 4)

    def test_tasks_that_there_are_not(self):
        house = self.furnished()
        for task in (1, -1, 2, GREAT, -GREAT):
            for deed, handed in (
                ("fork", ()), ("end_task", ()), ("stretches_of", ()), ("rights_at", (0,)), ("tie_at", (0,)),
                ("lay", (30, 1, 1)), ("lift", (0, 1)), ("guard", (0, 1, 1)), ("asked", (0, 1)),
            ):
                self.refused(NoTask, house, deed, task, *handed)
        house.end_task(0)
        self.refused(NoTask, house, "end_task", 0)

    def test_banks_that_there_are_not(self):
        house = self.furnished()
        for bank in (2, -1, 3, GREAT, -GREAT):
            self.refused(NoBank, house, "drop_bank", bank)
            self.refused(NoBank, house, "bank_size", bank)
        house.drop_bank(1)
        self.refused(NoBank, house, "drop_bank", 1)


class ForkTest(HouseCase):
    def test_the_same_pages_and_apart_from_then_on(self):
        house = self.furnished()
        before = house.stretches_of(0)
        self.assertEqual(house.fork(0), 1)
        self.assertEqual(house.stretches_of(1), before)
        self.assertEqual((house.rights_at(1, 20), house.tie_at(1, 20)), (3, (0, 3)))
        house.lift(1, 0, 2)
        house.guard(1, 20, 1, 0)
        house.lay(1, 63, 1, 2)
        self.assertEqual(house.stretches_of(0), before)
        changed = house.stretches_of(1)
        self.assertEqual(changed, [(2, 8, 1, None), (20, 1, 0, (0, 3)), (63, 1, 2, None)])
        house.lift(0, 0, 10)
        self.assertEqual(house.stretches_of(1), changed)
        house.end_task(0)
        self.assertEqual(house.stretches_of(1), changed)

    def test_busy_while_some_task_has_a_page_tied(self):
        house = self.furnished()
        self.refused(Busy, house, "drop_bank", 0)
        house.fork(0)
        house.lift(0, 20, 1)
        self.refused(Busy, house, "drop_bank", 0)
        house.guard(1, 20, 1, 0)
        self.refused(Busy, house, "drop_bank", 0)
        house.lift(1, 20, 1)
        house.drop_bank(0)
        self.assertEqual(house.bank_list(), [1])

    def test_not_busy_when_the_last_task_ends(self):
        house = self.furnished()
        house.fork(0)
        house.end_task(0)
        self.refused(Busy, house, "drop_bank", 0)
        house.drop_bank(1)
        house.end_task(1)
        house.drop_bank(0)
        self.assertEqual(house.bank_list(), [])


class LayTest(HouseCase):
    def test_deeds_answer_nothing(self):
        house = self.furnished()
        self.assertIsNone(house.lay(0, 30, 2, 1))
        self.assertIsNone(house.lay(0, 40, 2, 1, 0, 0))
        self.assertIsNone(house.guard(0, 30, 2, 3))
        self.assertIsNone(house.lift(0, 30, 2))

    def test_laid_from_a_start_ties_go_on(self):
        house = self.furnished()
        house.lay(0, 30, 3, 2, 1, 61)
        self.assertEqual([house.tie_at(0, page) for page in (29, 30, 31, 32, 33)],
                         [None, (1, 61), (1, 62), (1, 63), None])
        self.assertEqual([house.rights_at(0, page) for page in (29, 30, 31, 32, 33)], [None, 2, 2, 2, None])
        house.lay(0, 50, 4, 0, 0)
        self.assertEqual(house.stretches_of(0), [
            (0, 10, 1, None), (20, 1, 3, (0, 3)), (30, 3, 2, (1, 61)), (50, 4, 0, (0, 0)),
        ])

    def test_a_whole_bank_over_a_whole_room(self):
        house = House(Shape(3, 2, 4))
        house.new_task()
        house.new_bank(64)
        house.lay(0, 0, 64, 3, 0, 0)
        self.assertEqual(house.stretches_of(0), [(0, 64, 3, (0, 0))])
        self.assertEqual((house.tie_at(0, 63), house.rights_at(0, 63)), ((0, 63), 3))

    def test_without_a_bank_the_start_is_not_looked_at(self):
        for start in (-1, -GREAT, 64, 65, GREAT):
            house = self.furnished()
            house.lay(0, 30, 2, 1, None, start)
            self.assertEqual([house.tie_at(0, page) for page in (30, 31)], [None, None])
            self.assertEqual(house.rights_at(0, 31), 1)

    def test_starts_in_a_bank(self):
        for start, many in itertools.product((-GREAT, -64, -1, 0, 1, 2, 3, 4, 5, 64, GREAT), (1, 2, 3, 4, 5)):
            house = self.furnished()
            if 0 <= start and start + many <= 4:
                house.lay(0, 30, many, 1, 0, start)
                self.assertEqual(house.tie_at(0, 30 + many - 1), (0, start + many - 1))
            else:
                self.refused(OutOfBank, house, "lay", 0, 30, many, 1, 0, start)

    def test_stretches_that_do_not_fit(self):
        house = self.furnished()
        for first, many in ((-1, 1), (64, 1), (63, 2), (0, 0), (0, 65), (5, -1), (GREAT, 1), (0, GREAT), (-5, 10)):
            self.refused(OutOfRoom, house, "lay", 0, first, many, 1)
            self.refused(OutOfRoom, house, "lay", 0, first, many, 1, 0, 0)
            self.refused(OutOfRoom, house, "lift", 0, first, many)
            self.refused(OutOfRoom, house, "guard", 0, first, many, 1)
        wide = House(Shape(2, 4, 0))
        wide.new_task()
        wide.lay(0, 0, 64, 1)
        wide.lay(0, 64, 64, 1)
        self.assertEqual(wide.stretches_of(0), [(0, 128, 1, None)])
        self.refused(OutOfRoom, wide, "lay", 0, 128, 65, 1)
        self.refused(OutOfRoom, wide, "lift", 0, 0, 128)
        self.refused(OutOfRoom, wide, "guard", 0, 0, 65, 1)

    def test_lifting_and_guarding_a_part(self):
        house = self.furnished()
        house.guard(0, 2, 3, 2)
        house.lift(0, 9, 1)
        self.assertEqual(house.stretches_of(0), [
            (0, 2, 1, None), (2, 3, 2, None), (5, 4, 1, None), (20, 1, 3, (0, 3)),
        ])


class OrderTest(HouseCase):
    """Every refusal by itself, and every two of them due at once: the one told first is due."""

    def check(self, deed, rows, handed_by):
        names = [name for name, good, wrong in rows]
        for due in [()] + [(name,) for name in names] + list(itertools.combinations(names, 2)):
            for pick in range(3):
                handed = {}
                for name, good, wrong in rows:
                    handed[name] = wrong[pick % len(wrong)] if name in due else good
                house = self.furnished()
                if due:
                    with self.subTest(deed=deed, due=due):
                        self.refused(getattr(errors, due[0].split()[0]), house, deed, *handed_by(handed))
                else:
                    getattr(house, deed)(*handed_by(handed))

    def test_lay_with_a_bank(self):
        # Page 30 is free and 5 is taken; a stretch beyond the room starts there, too.
        for taken in (5, 20):
            rows = [
                ("NoTask", 0, [1, -1, GREAT]), ("OutOfRoom", 2, [0, 65, -GREAT]), ("BadRights", 3, [-1, 4, GREAT]),
                ("NoBank", 0, [2, -1, GREAT]), ("OutOfBank", 2, [-1, 3, GREAT]), ("Taken", 30, [taken]),
            ]
            self.check("lay", rows, lambda row: (
                row["NoTask"], row["Taken"], row["OutOfRoom"], row["BadRights"], row["NoBank"], row["OutOfBank"]))

    def test_lay_without_a_bank(self):
        rows = [("NoTask", 0, [1, -1, GREAT]), ("OutOfRoom", 2, [0, 65, -1]), ("BadRights", 0, [-1, 4, GREAT]),
                ("Taken", 30, [5, 19, 20])]
        self.check("lay", rows, lambda row: (row["NoTask"], row["Taken"], row["OutOfRoom"], row["BadRights"]))
        self.check("lay", rows, lambda row: (
            row["NoTask"], row["Taken"], row["OutOfRoom"], row["BadRights"], None, -1))

    def test_lift(self):
        rows = [("NoTask", 0, [1, -1, GREAT]), ("OutOfRoom", 2, [0, 65, -1]), ("NotMapped", 5, [9, 30, 19])]
        self.check("lift", rows, lambda row: (row["NoTask"], row["NotMapped"], row["OutOfRoom"]))

    def test_guard(self):
        rows = [("NoTask", 0, [1, -1, GREAT]), ("OutOfRoom", 2, [0, 65, -1]), ("BadRights", 0, [-1, 4, GREAT]),
                ("NotMapped", 5, [9, 30, 19])]
        self.check("guard", rows, lambda row: (row["NoTask"], row["NotMapped"], row["OutOfRoom"], row["BadRights"]))

    def test_asked(self):
        house = self.furnished()
        house.lay(0, 40, 1, 2)
        house.lay(0, 41, 1, 0)
        for task, address, want, error in (
            (0, 0, 2, NoRight), (0, 80, 1, NoRight), (0, 82, 1, NoRight), (0, 83, 2, NoRight),
            (0, 20, 1, NotMapped), (0, 39, 2, NotMapped), (0, 127, 1, NotMapped),
            (0, 128, 1, OutOfRoom), (0, -1, 2, OutOfRoom), (0, GREAT, 1, OutOfRoom), (0, -GREAT, 1, OutOfRoom),
            (1, 0, 1, NoTask), (1, 128, 1, NoTask), (-1, 20, 2, NoTask), (GREAT, 0, 2, NoTask), (1, -1, 1, NoTask),
        ):
            self.refused(error, house, "asked", task, address, want)

    def test_asked_lets_pass(self):
        house = self.furnished()
        house.lay(0, 40, 1, 2)
        self.assertEqual(house.asked(0, 0, 1), (0, 0))
        self.assertEqual(house.asked(0, 19, 1), (9, 1))
        self.assertEqual(house.asked(0, 40, 1), (20, 0))
        self.assertEqual(house.asked(0, 41, 2), (20, 1))
        self.assertEqual(house.asked(0, 81, 2), (40, 1))
        self.assertIsInstance(house.asked(0, 0, 1), tuple)

    def test_no_bank_ahead_of_busy(self):
        house = self.furnished()
        self.refused(NoBank, house, "drop_bank", 5)
        self.refused(Busy, house, "drop_bank", 0)


class ApartTest(HouseCase):
    def test_lists_told_and_then_changed(self):
        house = self.furnished()
        before = self.told(house)
        for told in (house.task_list(), house.bank_list(), house.stretches_of(0)):
            told.append(7)
            told[0] = None
        self.assertEqual(self.told(house), before)
        kept = (house.task_list(), house.bank_list(), house.stretches_of(0))
        house.new_task()
        house.new_bank(1)
        house.lift(0, 0, 1)
        self.assertEqual(kept, ([0], [0, 1], [(0, 10, 1, None), (20, 1, 3, (0, 3))]))

    def test_two_houses_beside_one_another(self):
        shape = Shape(2, 3, 1)
        one, other = House(shape), House(shape)
        one.new_task()
        one.new_bank(3)
        one.lay(0, 0, 1, 1)
        self.assertEqual(self.told(other), ({}, {}))
        other.new_task()
        self.assertEqual(self.told(other), ({0: []}, {}))
        self.assertEqual(one.stretches_of(0), [(0, 1, 1, None)])

    def test_arguments_bear_their_names(self):
        house = House(shape=Shape(2, 3, 1))
        house.new_task()
        house.new_bank(many=5)
        house.lay(start=1, bank=0, rights=3, many=2, first=4, task=0)
        house.guard(rights=1, many=1, first=4, task=0)
        house.lift(many=1, first=5, task=0)
        self.assertEqual(house.fork(task=0), 1)
        self.assertEqual(house.stretches_of(task=1), [(4, 1, 1, (0, 1))])
        self.assertEqual(house.asked(want=1, address=9, task=1), (4, 1))
        self.assertEqual((house.rights_at(page=4, task=0), house.tie_at(page=4, task=0)), (1, (0, 1)))
        house.end_task(task=0)
        house.end_task(task=1)
        self.assertEqual(house.bank_size(bank=0), 5)
        house.drop_bank(bank=0)
        self.assertEqual(self.told(house), ({}, {}))

    def test_rights_and_ties_page_by_page(self):
        chance = random.Random(3)
        house = self.furnished()
        for deed in range(200):
            first, many, rights = chance.randrange(64), chance.randint(1, 4), chance.randrange(4)
            try:
                chance.choice((
                    lambda: house.lay(0, first, many, rights), lambda: house.lay(0, first, many, rights, 1, first % 60),
                    lambda: house.lift(0, first, many), lambda: house.guard(0, first, many, rights),
                ))()
            except errors.FrameError:
                pass
            pages = {}
            for row_first, row_many, row_rights, tie in house.stretches_of(0):
                for step in range(row_many):
                    pages[row_first + step] = (row_rights, None if tie is None else (tie[0], tie[1] + step))
            for page in range(64):
                self.assertEqual((house.rights_at(0, page), house.tie_at(0, page)), pages.get(page, (None, None)))


if __name__ == "__main__":
    unittest.main()
