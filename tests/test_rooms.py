import copy
import random
import unittest

from frameland import errors
from frameland.errors import Busy, NoBank, NoRight, NoRoom, NotMapped, NoTask, OutOfBank, OutOfRoom, Taken
from frameland.rooms import Rooms
from frameland.shapes import Shape
from tests.plain import PlainWorld

GREAT = 10 ** 299 + 7


class RoomsCase(unittest.TestCase):
    def told(self, rooms):
        seen = {task: (rooms.stretches_of(task), rooms.seen_by(task)) for task in rooms.task_list()}
        # A copy, so that lists told and then changed are seen to be changed.
        return copy.deepcopy((seen, rooms.bank_list(), rooms.live_sheets()))

    def refused(self, error, rooms, deed, *handed):
        before = self.told(rooms)
        with self.assertRaises(errors.FrameError) as caught:
            getattr(rooms, deed)(*handed)
        self.assertIs(type(caught.exception), error, (deed, handed))
        self.assertEqual(self.told(rooms), before)

    def opened(self, most=100):
        """Pages of two boxes; task 0 with the private pages 0 to 3 and 10 to 11 tied to bank 0's pages 1 to 2."""
        rooms = Rooms(Shape(2, 2, 1), most)
        rooms.new_task()
        rooms.new_bank(4)
        rooms.lay(0, 0, 4, 3)
        rooms.lay(0, 10, 2, 3, 0, 1)
        return rooms


class DeedsTest(RoomsCase):
    def test_new_rooms_have_nothing_in_them(self):
        rooms = Rooms(Shape(2, 2, 1), 1)
        self.assertEqual((rooms.task_list(), rooms.bank_list(), rooms.live_sheets()), ([], [], 0))
        self.assertEqual(rooms.fold(), 0)

    def test_answers_of_the_house(self):
        rooms = Rooms(Shape(2, 2, 1), 1)
        self.assertEqual([rooms.new_task(), rooms.new_task(), rooms.fork(0)], [0, 1, 2])
        self.assertIsNone(rooms.end_task(1))
        self.assertEqual((rooms.fork(2), rooms.task_list()), (1, [0, 1, 2]))
        self.assertEqual([rooms.new_bank(1), rooms.new_bank(64)], [0, 1])
        self.assertIsNone(rooms.drop_bank(0))
        self.assertEqual((rooms.new_bank(5), rooms.bank_list()), (0, [0, 1]))
        self.assertIsNone(rooms.lay(0, 2, 2, 3))
        self.assertIsNone(rooms.lay(0, 8, 2, 1, 1, 62))
        self.assertIsNone(rooms.guard(0, 3, 1, 0))
        self.assertIsNone(rooms.lift(0, 9, 1))
        self.assertEqual(rooms.stretches_of(0), [(2, 1, 3, None), (3, 1, 0, None), (8, 1, 1, (1, 62))])
        self.assertIsNone(rooms.write(0, 4, 9))
        self.assertEqual(rooms.read(0, 4), 9)

    def test_refusals_of_the_house(self):
        rooms = self.opened()
        for error, deed, handed in (
            (NoTask, "fork", (5,)), (NoTask, "end_task", (-1,)), (OutOfBank, "new_bank", (0,)),
            (OutOfBank, "new_bank", (65,)), (NoBank, "drop_bank", (1,)), (Busy, "drop_bank", (0,)),
            (NoTask, "lay", (1, 0, 99, 9, 9, 9)), (OutOfRoom, "lay", (0, 16, 1, 9)),
            (errors.BadRights, "lay", (0, 0, 1, 4)),
            (NoBank, "lay", (0, 0, 1, 3, 7, 0)), (OutOfBank, "lay", (0, 0, 1, 3, 0, 4)), (Taken, "lay", (0, 3, 2, 3)),
            (OutOfBank, "lay", (0, 5, 1, 3, 0, -1)),
            (NoTask, "lift", (1, 0, 99)), (OutOfRoom, "lift", (0, 0, 0)), (NotMapped, "lift", (0, 3, 2)),
            (NoTask, "guard", (1, 0, 99, 9)), (OutOfRoom, "guard", (0, 0, 65, 9)), (NotMapped, "guard", (0, 3, 2, 1)),
            (errors.BadRights, "guard", (0, 5, 1, -1)), (NoTask, "stretches_of", (2,)), (NoTask, "seen_by", (2,)),
        ):
            self.refused(error, rooms, deed, *handed)

    def test_an_access_that_is_refused(self):
        rooms = self.opened(1)
        rooms.lay(0, 6, 1, 1)
        rooms.lay(0, 7, 1, 2)
        rooms.lay(0, 8, 1, 0)
        rooms.write(0, 0, 5)
        for task, page, read, written in (
            (1, 0, NoTask, NoTask), (1, 99, NoTask, NoTask), (0, 16, OutOfRoom, OutOfRoom),
            (0, -1, OutOfRoom, OutOfRoom),
            (0, GREAT, OutOfRoom, OutOfRoom), (0, 5, NotMapped, NotMapped), (0, 6, NoRoom, NoRight),
            (0, 7, NoRight, NoRoom), (0, 8, NoRight, NoRight), (0, 1, NoRoom, NoRoom), (0, 10, NoRoom, NoRoom),
        ):
            for box in (0, 1):
                self.refused(read, rooms, "read", task, 2 * page + box)
                self.refused(written, rooms, "write", task, 2 * page + box, 7)


class BoxesTest(RoomsCase):
    def test_boxes_of_private_pages(self):
        rooms = self.opened()
        rooms.write(0, 0, 11)
        rooms.write(0, 3, -GREAT)
        self.assertEqual([rooms.read(0, address) for address in range(8)], [11, 0, 0, -GREAT, 0, 0, 0, 0])
        rooms.write(0, 0, 12)
        self.assertEqual(rooms.read(0, 0), 12)

    def test_boxes_of_tied_pages_are_the_bank_s(self):
        rooms = self.opened()
        rooms.lay(0, 5, 3, 3, 0, 0)
        rooms.write(0, 20, 7)
        self.assertEqual((rooms.read(0, 12), rooms.live_sheets()), (7, 1))
        rooms.write(0, 15, 8)
        self.assertEqual((rooms.read(0, 23), rooms.live_sheets()), (8, 2))
        other = rooms.new_task()
        rooms.lay(other, 0, 4, 3, 0, 0)
        self.assertEqual([rooms.read(other, address) for address in range(8)], [0, 0, 7, 0, 0, 8, 0, 0])
        rooms.write(other, 2, 9)
        self.assertEqual((rooms.read(0, 20), rooms.read(0, 12)), (9, 9))

    def test_a_bank_laid_without_a_start_begins_at_its_first_page(self):
        rooms = self.opened()
        rooms.lay(0, 5, 2, 3, 0)
        self.assertEqual(rooms.stretches_of(0), [(0, 4, 3, None), (5, 2, 3, (0, 0)), (10, 2, 3, (0, 1))])
        rooms.write(0, 12, 7)
        self.assertEqual(rooms.read(0, 20), 7)

    def test_reading_a_blank_page_needs_a_sheet(self):
        rooms = self.opened(2)
        self.assertEqual((rooms.live_sheets(), rooms.read(0, 0), rooms.live_sheets()), (0, 0, 1))
        self.assertEqual((rooms.read(0, 1), rooms.live_sheets()), (0, 1))
        self.assertEqual((rooms.read(0, 20), rooms.live_sheets()), (0, 2))
        self.refused(NoRoom, rooms, "read", 0, 2)
        self.refused(NoRoom, rooms, "read", 0, 22)
        self.assertEqual((rooms.read(0, 1), rooms.read(0, 21)), (0, 0))
        rooms.write(0, 1, 5)
        rooms.write(0, 21, 6)
        self.assertEqual((rooms.read(0, 1), rooms.read(0, 21)), (5, 6))

    def test_rights_do_not_change_what_is_there(self):
        rooms = self.opened()
        rooms.write(0, 0, 5)
        rooms.guard(0, 0, 1, 0)
        self.refused(NoRight, rooms, "read", 0, 0)
        self.assertEqual(rooms.seen_by(0)[0], (0, 0, [5, 0]))
        rooms.guard(0, 0, 1, 1)
        self.assertEqual(rooms.read(0, 0), 5)

    def test_a_page_laid_again_is_blank(self):
        rooms = self.opened()
        rooms.write(0, 0, 5)
        rooms.write(0, 20, 6)
        rooms.lift(0, 0, 4)
        rooms.lift(0, 10, 2)
        self.assertEqual(rooms.live_sheets(), 1)
        rooms.lay(0, 0, 4, 3)
        rooms.lay(0, 10, 1, 3)
        rooms.lay(0, 11, 1, 3, 0, 1)
        self.assertEqual(rooms.live_sheets(), 1)
        self.assertEqual([rooms.read(0, address) for address in (0, 20, 22)], [0, 0, 6])


class ForkTest(RoomsCase):
    def test_sheets_together_until_one_writes(self):
        for writer, other in ((0, 1), (1, 0)):
            rooms = self.opened()
            rooms.write(0, 0, 5)
            rooms.write(0, 2, 6)
            self.assertEqual(rooms.fork(0), 1)
            self.assertEqual(rooms.live_sheets(), 2)
            self.assertEqual([rooms.read(1, address) for address in (0, 2)], [5, 6])
            self.assertEqual(rooms.live_sheets(), 2)
            rooms.write(writer, 1, 7)
            self.assertEqual(rooms.live_sheets(), 3)
            self.assertEqual([rooms.read(writer, address) for address in (0, 1)], [5, 7])
            self.assertEqual([rooms.read(other, address) for address in (0, 1)], [5, 0])
            rooms.write(other, 0, 8)
            self.assertEqual(rooms.live_sheets(), 3)
            self.assertEqual([rooms.read(writer, address) for address in (0, 1)], [5, 7])

    def test_blank_pages_stay_blank_each_for_itself(self):
        rooms = self.opened()
        rooms.fork(0)
        self.assertEqual(rooms.live_sheets(), 0)
        rooms.write(0, 0, 5)
        self.assertEqual((rooms.read(1, 0), rooms.live_sheets()), (0, 2))

    def test_tied_pages_stay_one(self):
        rooms = self.opened()
        rooms.write(0, 20, 5)
        rooms.fork(0)
        rooms.write(1, 20, 6)
        rooms.write(1, 22, 7)
        self.assertEqual((rooms.read(0, 20), rooms.read(0, 22), rooms.live_sheets()), (6, 7, 2))

    def test_no_room_just_where_one_sheet_more_is_needed(self):
        rooms = self.opened(1)
        rooms.write(0, 0, 5)
        rooms.fork(0)
        self.assertEqual((rooms.read(0, 0), rooms.read(1, 0)), (5, 5))
        self.refused(NoRoom, rooms, "write", 0, 0, 6)
        self.refused(NoRoom, rooms, "write", 1, 1, 5)
        rooms.lift(0, 0, 1)
        rooms.write(1, 0, 7)
        self.assertEqual((rooms.read(1, 0), rooms.live_sheets()), (7, 1))

    def test_sheets_go_by_lifting_ends_and_drops(self):
        rooms = self.opened(3)
        rooms.write(0, 0, 5)
        rooms.write(0, 2, 6)
        rooms.write(0, 20, 7)
        rooms.fork(0)
        self.refused(NoRoom, rooms, "write", 0, 4, 1)
        rooms.lift(0, 0, 1)
        self.assertEqual(rooms.live_sheets(), 3)
        self.refused(NoRoom, rooms, "write", 0, 4, 1)
        rooms.lift(1, 0, 2)
        self.assertEqual(rooms.live_sheets(), 2)
        rooms.write(0, 4, 1)
        self.assertEqual(rooms.live_sheets(), 3)
        rooms.end_task(1)
        self.assertEqual(rooms.live_sheets(), 3)
        rooms.end_task(0)
        self.assertEqual(rooms.live_sheets(), 1)
        rooms.drop_bank(0)
        self.assertEqual(rooms.live_sheets(), 0)

    def test_a_bank_s_sheets_stay_while_it_is_not_dropped(self):
        rooms = self.opened(2)
        rooms.write(0, 20, 5)
        rooms.write(0, 22, 6)
        rooms.lift(0, 10, 2)
        self.refused(NoRoom, rooms, "read", 0, 0)
        rooms.drop_bank(0)
        self.assertEqual((rooms.read(0, 0), rooms.live_sheets()), (0, 1))
        self.assertEqual(rooms.new_bank(4), 0)
        rooms.lay(0, 10, 1, 3, 0, 1)
        self.assertEqual(rooms.read(0, 20), 0)


class SeenTest(RoomsCase):
    def test_pages_of_whatever_rights(self):
        rooms = self.opened()
        for page in range(4):
            rooms.write(0, 2 * page + 1, page + 1)
            rooms.guard(0, page, 1, 3 - page)
        rooms.write(0, 22, 9)
        rooms.guard(0, 11, 1, 0)
        rooms.lay(0, 15, 1, 0)
        self.assertEqual(rooms.seen_by(0), [
            (0, 3, [0, 1]), (1, 2, [0, 2]), (2, 1, [0, 3]), (3, 0, [0, 4]), (10, 3, [0, 0]), (11, 0, [9, 0]),
            (15, 0, [0, 0]),
        ])
        self.assertEqual(rooms.live_sheets(), 5)
        self.assertEqual(rooms.seen_by(rooms.new_task()), [])

    def test_every_size(self):
        for grain in range(5):
            rooms = Rooms(Shape(2, 1, grain), 9)
            rooms.new_task()
            rooms.lay(0, 0, 4, 3)
            for address in range(2 ** grain, 2 ** (grain + 1)):
                rooms.write(0, address, address)
            self.assertEqual(rooms.seen_by(0)[1], (1, 3, list(range(2 ** grain, 2 ** (grain + 1)))))
            self.assertEqual(rooms.seen_by(0)[0], (0, 3, [0] * 2 ** grain))


class FoldTest(RoomsCase):
    def test_alike_ones_become_one(self):
        rooms = self.opened()
        for page in (0, 1, 3):
            rooms.write(0, 2 * page, 5)
        rooms.write(0, 4, 6)
        self.assertEqual((rooms.fold(), rooms.live_sheets()), (2, 2))
        self.assertEqual([row[2] for row in rooms.seen_by(0)[:4]], [[5, 0], [5, 0], [6, 0], [5, 0]])
        self.assertEqual(rooms.fold(), 0)
        rooms.write(0, 2, 7)
        self.assertEqual([row[2] for row in rooms.seen_by(0)[:4]], [[5, 0], [7, 0], [6, 0], [5, 0]])
        self.assertEqual(rooms.live_sheets(), 3)

    def test_over_tasks_and_forks(self):
        rooms = self.opened()
        rooms.write(0, 0, 5)
        rooms.fork(0)
        rooms.fork(0)
        rooms.write(1, 0, 5)
        rooms.write(2, 2, 5)
        self.assertEqual(rooms.live_sheets(), 3)
        self.assertEqual((rooms.fold(), rooms.live_sheets()), (2, 1))
        self.assertEqual([rooms.read(task, address) for task, address in ((0, 0), (1, 0), (2, 0), (2, 2))], [5] * 4)
        rooms.end_task(0)
        rooms.end_task(1)
        self.assertEqual(rooms.live_sheets(), 1)
        rooms.lift(2, 0, 2)
        self.assertEqual(rooms.live_sheets(), 0)

    def test_blank_pages_stay_blank(self):
        rooms = self.opened()
        rooms.read(0, 0)
        rooms.fork(0)
        self.assertEqual((rooms.fold(), rooms.live_sheets()), (0, 1))
        rooms.read(0, 2)
        self.assertEqual((rooms.fold(), rooms.live_sheets()), (1, 1))
        self.assertEqual((rooms.read(0, 4), rooms.live_sheets()), (0, 2))

    def test_sheets_of_banks_stay(self):
        rooms = self.opened()
        for address in (0, 20, 22):
            rooms.write(0, address, 5)
        self.assertEqual((rooms.fold(), rooms.live_sheets()), (0, 3))
        rooms.write(0, 2, 5)
        self.assertEqual((rooms.fold(), rooms.live_sheets()), (1, 3))
        rooms.write(0, 20, 6)
        self.assertEqual([rooms.read(0, address) for address in (0, 2, 20, 22)], [5, 5, 6, 5])

    def test_nothing_alike(self):
        rooms = self.opened()
        rooms.write(0, 0, 5)
        rooms.write(0, 3, 5)
        rooms.write(0, 4, -5)
        self.assertEqual((rooms.fold(), rooms.live_sheets()), (0, 3))

    def test_folding_gives_room(self):
        rooms = self.opened(2)
        rooms.write(0, 0, 5)
        rooms.write(0, 2, 5)
        self.refused(NoRoom, rooms, "read", 0, 4)
        self.assertEqual(rooms.fold(), 1)
        rooms.read(0, 4)
        self.refused(NoRoom, rooms, "write", 0, 0, 6)


class WholeTest(RoomsCase):
    def test_many_deeds_as_the_plain_world(self):
        for seed in range(30):
            chance = random.Random(seed)
            most, grain = chance.choice((1, 2, 4, 9, 40)), chance.randrange(3)
            rooms, world = Rooms(Shape(2, 2, grain), most), PlainWorld(16, 2 ** grain, most)
            for deed in range(250):
                self.do_one(chance, rooms, world)
                self.assertEqual(rooms.task_list(), sorted(world.tasks))
                self.assertEqual(rooms.live_sheets(), len(world.live()))
                for task in rooms.task_list():
                    self.assertEqual(rooms.seen_by(task), world.seen(task))

    def do_one(self, chance, rooms, world):
        task, bank = chance.randrange(4), chance.randrange(2)
        rare = ("new", "fork", "end", "bank", "drop", "fold")
        kind = chance.choice(rare + ("lay", "lift", "guard") * 2 + ("read", "write") * 7)
        first, many, rights = chance.randrange(16), chance.randint(1, 3), chance.choice((0, 1, 2, 3, 3, 3))
        address, value = chance.randrange(16 * world.size), chance.randrange(3)
        try:
            if kind == "new" and len(world.tasks) < 4:
                world.tasks[rooms.new_task()] = {}
            elif kind == "fork" and len(world.tasks) < 4:
                other = rooms.fork(task)
                world.tasks[other] = {page: dict(row) for page, row in world.tasks[task].items()}
            elif kind == "end" and chance.random() < 0.3:
                rooms.end_task(task)
                world.tasks.pop(task)
            elif kind == "bank" and len(world.banks) < 2:
                world.banks[rooms.new_bank(many)] = [None] * many
            elif kind == "drop":
                rooms.drop_bank(bank)
                world.banks.pop(bank)
            elif kind == "fold":
                self.assertEqual(rooms.fold(), world.fold())
            elif kind == "lay":
                tie = chance.choice((None, (bank, chance.randrange(3))))
                rooms.lay(task, first, many, rights, *(tie or ()))
                for step in range(many):
                    page_tie = None if tie is None else (tie[0], tie[1] + step)
                    world.tasks[task][first + step] = {"rights": rights, "tie": page_tie, "sheet": None}
            elif kind == "lift":
                rooms.lift(task, first, many)
                for page in range(first, first + many):
                    world.tasks[task].pop(page)
            elif kind == "guard":
                rooms.guard(task, first, many, rights)
                for page in range(first, first + many):
                    world.tasks[task][page]["rights"] = rights
            elif kind in ("read", "write"):
                self.access(kind, rooms, world, task, address, value)
        except errors.FrameError:
            pass

    def access(self, kind, rooms, world, task, address, value):
        try:
            sheet, box = world.reach(task, address, 1 if kind == "read" else 2)
        except errors.FrameError as error:
            handed = (task, address) if kind == "read" else (task, address, value)
            self.refused(type(error), rooms, kind, *handed)
            return
        if kind == "read":
            self.assertEqual(rooms.read(task, address), sheet[box])
        else:
            rooms.write(task, address, value)
            sheet[box] = value

    def test_lists_told_and_then_changed(self):
        rooms = self.opened()
        rooms.write(0, 0, 5)
        before = self.told(rooms)
        seen = rooms.seen_by(0)
        seen[0][2][0] = 9
        seen[5][2].append(4)
        seen.pop()
        for told in (rooms.task_list(), rooms.bank_list(), rooms.stretches_of(0)):
            told.clear()
        self.assertEqual(self.told(rooms), before)
        kept = rooms.seen_by(0)
        rooms.write(0, 0, 6)
        rooms.write(0, 20, 6)
        self.assertEqual(kept, before[0][0][1])

    def test_two_rooms_beside_one_another(self):
        shape = Shape(2, 2, 1)
        one, other = Rooms(shape, 1), Rooms(shape, 1)
        for rooms in (one, other):
            rooms.new_task()
            rooms.lay(0, 0, 2, 3)
        one.write(0, 0, 5)
        self.assertEqual((other.live_sheets(), other.read(0, 0)), (0, 0))
        other.write(0, 0, 6)
        self.assertEqual(one.read(0, 0), 5)

    def test_arguments_bear_their_names(self):
        rooms = Rooms(most=5, shape=Shape(2, 2, 1))
        rooms.new_task()
        rooms.new_bank(many=4)
        rooms.lay(start=1, bank=0, rights=1, many=2, first=3, task=0)
        rooms.guard(rights=3, many=2, first=3, task=0)
        rooms.lift(many=1, first=4, task=0)
        rooms.write(value=7, address=6, task=0)
        self.assertEqual(rooms.read(address=6, task=rooms.fork(task=0)), 7)
        self.assertEqual((rooms.seen_by(task=1), rooms.stretches_of(task=1)), ([(3, 3, [7, 0])], [(3, 1, 3, (0, 1))]))
        rooms.end_task(task=0)
        rooms.end_task(task=1)
        rooms.drop_bank(bank=0)
        self.assertEqual(self.told(rooms), ({}, [], 0))


if __name__ == "__main__":
    unittest.main()
