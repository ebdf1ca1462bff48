import copy
import itertools
import unittest

from frameland import errors
from frameland.errors import NoBank, NoRoom, NoShape, NoTask
from frameland.machine import Machine
from frameland.rooms import Rooms
from frameland.shapes import Shape
from tests.plain import Chooser, PlainMachine, done

GREAT = 10 ** 299 + 7
KEPT = 4


def seen_whole(one):
    """All that rooms and machines tell alike."""
    tasks = {task: (one.stretches_of(task), one.seen_by(task)) for task in one.task_list()}
    return copy.deepcopy((tasks, one.bank_list(), one.live_sheets()))


def lying(machine):
    """Entries, frames and slots: what a book must not change."""
    return copy.deepcopy((
        {task: (machine.told_task(task), machine.table_count(task)) for task in machine.task_list()},
        {bank: machine.told_bank(bank) for bank in machine.bank_list()},
        machine.told_frames(), machine.told_slots(), machine.hand_at(),
    ))


def told(machine):
    return (seen_whole(machine), lying(machine), copy.deepcopy(machine.told_book()), machine.counts())


class MachineCase(unittest.TestCase):
    def check_promise(self, machine):
        """Point 3 of one machine by itself: rows of the book, holders of frames and slots."""
        entries = {}
        for task in machine.task_list():
            entries.update({("task", task, page): entry for page, entry in machine.told_task(task)})
        for row in machine.told_book():
            if row is not None:
                self.assertEqual(entries[("task", row[0], row[1])], row[2])
        for bank in machine.bank_list():
            rows = enumerate(machine.told_bank(bank))
            entries.update({("bank", bank, page): entry for page, entry in rows if entry is not None})
        for kind, spots in ((KEPT, machine.told_frames()), (0, machine.told_slots())):
            for number, row in enumerate(spots):
                here = {holder for holder, entry in entries.items() if entry // 32 == number}
                named = sorted(holder for holder in here if entries[holder] & KEPT == kind)
                if row is None or (kind == 0 and row[2] is not None):
                    self.assertEqual(named, [])
                else:
                    self.assertEqual(row[1], named)
                    self.assertNotEqual(named, [])
        for number, row in enumerate(machine.told_frames()):
            if row is not None and row[2] is not None:
                self.assertEqual(machine.told_slots()[row[2]], (row[0], [], number))

    def check_same_as_plain(self, machine, plain):
        entries = plain.keeper.entries()
        for task in machine.task_list():
            rows = sorted((holder[2], entry) for holder, entry in entries.items() if holder[:2] == ("task", task))
            self.assertEqual(machine.told_task(task), rows)
        self.assertEqual(machine.told_frames(), plain.keeper.sheets.told_frames())
        self.assertEqual(machine.told_slots(), plain.keeper.sheets.told_slots())
        self.assertEqual((machine.hand_at(), machine.counts()), (plain.keeper.sheets.hand, plain.keeper.counts()))
        self.assertEqual(machine.told_book(), plain.keeper.book.told())

    def refused(self, error, machine, *deed):
        before = told(machine)
        self.assertEqual(done(machine, deed), ("refused", error), deed)
        self.assertEqual(told(machine), before)


class SizesTest(MachineCase):
    def test_sizes_at_their_bounds(self):
        for frames, slots, places in itertools.product((1, 2, 63, 64), (0, 1, 64), (0, 1, 64)):
            machine = Machine(Shape(2, 1, 0), frames, slots, places)
            self.assertEqual(len(machine.told_frames()), frames)
            self.assertEqual(len(machine.told_slots()), slots)
            self.assertEqual(len(machine.told_book()), places)
        self.assertEqual(Machine(Shape(2, 1, 0), 1, 0).told_book(), [])

    def test_sizes_beyond_their_bounds(self):
        for frames in (0, 65, -1, -64, 66, GREAT, -GREAT):
            with self.assertRaises(NoShape):
                Machine(Shape(2, 1, 0), frames, 1, 1)
        for other in (-1, 65, -64, 66, GREAT, -GREAT):
            with self.assertRaises(NoShape):
                Machine(Shape(2, 1, 0), 1, other, 1)
            with self.assertRaises(NoShape):
                Machine(Shape(2, 1, 0), 1, 1, other)
            with self.assertRaises(NoShape):
                Machine(Shape(2, 1, 0), 1, other)

    def test_a_new_machine_has_nothing_in_it(self):
        machine = Machine(Shape(2, 2, 1), 2, 3, 1)
        self.assertEqual(seen_whole(machine), ({}, [], 0))
        self.assertEqual(lying(machine), ({}, {}, [None] * 2, [None] * 3, 0))
        self.assertEqual((machine.told_book(), machine.counts()), ([None], (0,) * 9))


class DeedsTest(MachineCase):
    def opened(self, frames, slots, places=0):
        """Pages of two boxes; task 0 with the private pages 0 to 3 and 10 to 11 tied to bank 0's pages 1 to 2."""
        machine = Machine(Shape(2, 2, 1), frames, slots, places)
        machine.new_task()
        machine.new_bank(4)
        machine.lay(0, 0, 4, 3)
        machine.lay(0, 10, 2, 3, 0, 1)
        return machine

    def test_answers(self):
        machine = self.opened(2, 2)
        self.assertEqual([machine.new_task(), machine.fork(0), machine.new_bank(2)], [1, 2, 1])
        for deed in (("lay", 1, 0, 2, 3), ("lay", 1, 2, 2, 3, 1), ("guard", 1, 0, 1, 1), ("write", 1, 2, 5),
                     ("lift", 1, 0, 2), ("end_task", 2), ("lift", 1, 2, 2), ("drop_bank", 1)):
            self.assertEqual(done(machine, deed), ("answer", None))
        self.assertEqual((machine.read(0, 0), machine.fold()), (0, 0))

    def test_told_of_none_such(self):
        machine = self.opened(1, 1)
        for number in (1, -1, 7, GREAT):
            for name in ("told_task", "table_count", "seen_by", "stretches_of"):
                self.refused(NoTask, machine, name, number)
            self.refused(NoBank, machine, "told_bank", number)
        machine.end_task(0)
        self.refused(NoTask, machine, "told_task", 0)
        machine.drop_bank(0)
        self.refused(NoBank, machine, "told_bank", 0)

    def test_an_access_is_served_where_it_can_be(self):
        machine = self.opened(2, 1, 4)
        machine.write(0, 0, 5)
        self.assertEqual(machine.counts()[:2], (0, 1))
        self.assertEqual(machine.read(0, 1), 0)
        machine.write(0, 1, 6)
        self.assertEqual((machine.read(0, 0), machine.read(0, 1)), (5, 6))
        self.assertEqual(machine.counts()[:2], (4, 1))
        self.assertEqual(machine.told_book(), [(0, 0, 31, True), None, None, None])
        machine.read(0, 2)
        machine.write(0, 2, 7)
        self.assertEqual(machine.counts()[:2], (4, 3))
        # What is out of the room is not asked of the book.
        self.refused(errors.OutOfRoom, machine, "read", 0, -32)
        self.refused(errors.OutOfRoom, machine, "read", 0, 32)

    def test_rights_taken_are_not_served_any_more(self):
        machine = self.opened(2, 1, 4)
        machine.write(0, 0, 5)
        machine.guard(0, 0, 1, 1)
        self.refused(errors.NoRight, machine, "write", 0, 0, 6)
        self.assertEqual(machine.read(0, 0), 5)
        machine.guard(0, 0, 1, 2)
        self.refused(errors.NoRight, machine, "read", 0, 0)
        machine.lift(0, 0, 1)
        self.refused(errors.NotMapped, machine, "read", 0, 0)
        machine.write(0, 2, 5)
        machine.end_task(0)
        self.refused(NoTask, machine, "read", 0, 2)

    def test_a_fork_shares_all_pages(self):
        machine = self.opened(2, 2, 4)
        for address, value in ((0, 5), (2, 6), (4, 7), (20, 8)):
            machine.write(0, address, value)
        machine.fork(0)
        self.assertEqual([row[0] for row in machine.told_task(1)], [0, 1, 2])
        self.assertEqual(machine.seen_by(0), machine.seen_by(1))
        self.assertEqual(machine.live_sheets(), 4)
        self.refused(NoRoom, machine, "write", 1, 0, 9)
        machine.write(1, 20, 9)
        self.assertEqual((machine.read(0, 20), machine.read(1, 0)), (9, 5))
        machine.lift(0, 0, 1)
        machine.write(1, 0, 9)
        self.assertEqual(machine.read(1, 0), 9)
        self.check_promise(machine)

    def test_lifting_ends_and_drops_let_sheets_go(self):
        machine = self.opened(1, 3, 2)
        for address, value in ((0, 5), (2, 6), (20, 8), (22, 9)):
            machine.write(0, address, value)
        self.refused(NoRoom, machine, "read", 0, 4)
        machine.lift(0, 0, 2)
        self.assertEqual((machine.live_sheets(), machine.told_task(0)), (2, [(11, 31)]))
        machine.lift(0, 10, 2)
        self.assertEqual((machine.live_sheets(), machine.told_task(0), machine.table_count(0)), (2, [], 1))
        machine.drop_bank(0)
        self.assertEqual((machine.live_sheets(), machine.told_frames(), machine.told_slots()), (0, [None], [None] * 3))
        machine.write(0, 4, 1)
        machine.end_task(0)
        self.assertEqual((machine.live_sheets(), machine.told_book()), (0, [None, None]))

    def test_page_seen(self):
        machine = self.opened(1, 1)
        machine.write(0, 21, 5)
        self.assertEqual((machine.page_seen(0, 10), machine.page_seen(0, 3)), ([0, 5], [0, 0]))
        self.refused(NoTask, machine, "page_seen", 1, 99)
        self.refused(errors.OutOfRoom, machine, "page_seen", 0, 16)
        self.refused(errors.NotMapped, machine, "page_seen", 0, 15)

    def test_what_is_told_changes_nothing(self):
        machine = self.opened(1, 2, 2)
        for address in (0, 2, 20):
            machine.write(0, address, 5)
        before = told(machine)
        self.assertEqual(told(machine), before)

    def test_lists_told_and_then_changed(self):
        machine = self.opened(2, 2, 2)
        for address in (0, 2, 20, 0):
            machine.write(0, address, 5)
        before = told(machine)
        for row in machine.seen_by(0):
            row[2].append(9)
        for row in machine.told_frames() + machine.told_slots():
            if row is not None:
                row[0].append(9)
                row[1].append(9)
        for row in (machine.task_list(), machine.bank_list(), machine.stretches_of(0), machine.told_task(0),
                    machine.told_bank(0), machine.told_book(), machine.told_frames(), machine.told_slots(),
                    machine.seen_by(0), machine.page_seen(0, 0)):
            row.clear()
        self.assertEqual(told(machine), before)
        kept = (machine.seen_by(0), machine.told_frames())
        machine.write(0, 0, 6)
        self.assertEqual(kept, (before[0][0][0][1], before[1][2]))

    def test_two_machines_beside_one_another(self):
        shape = Shape(2, 2, 1)
        one, other = Machine(shape, 1, 1, 1), Machine(shape, 1, 1, 1)
        for machine in (one, other):
            machine.new_task()
            machine.lay(0, 0, 2, 3)
        one.write(0, 0, 5)
        self.assertEqual((other.live_sheets(), other.counts(), other.read(0, 0)), (0, (0,) * 9, 0))
        self.assertEqual(one.read(0, 0), 5)

    def test_arguments_bear_their_names(self):
        machine = Machine(places=1, slots=1, frames=1, shape=Shape(2, 2, 1))
        machine.new_task()
        machine.new_bank(many=2)
        machine.lay(start=1, bank=0, rights=1, many=1, first=3, task=0)
        machine.guard(rights=3, many=1, first=3, task=0)
        machine.write(value=5, address=6, task=0)
        self.assertEqual((machine.read(address=6, task=0), machine.fork(task=0)), (5, 1))
        self.assertEqual(machine.seen_by(task=1), [(3, 3, [5, 0])])
        self.assertEqual(machine.stretches_of(task=1), [(3, 1, 3, (0, 1))])
        self.assertEqual((machine.told_task(task=0), machine.table_count(task=1)), ([(3, 31)], 1))
        self.assertEqual(machine.told_bank(bank=0), [None, KEPT])
        machine.lift(many=1, first=3, task=0)
        machine.end_task(task=1)
        machine.drop_bank(bank=0)


class RefusalsTest(MachineCase):
    """Every refusal, and every two due at once, as the plain rooms have them."""

    def furnish(self, one):
        for deed in (("new_task",), ("new_bank", 4), ("lay", 0, 0, 4, 3), ("lay", 0, 4, 1, 1), ("lay", 0, 5, 1, 2),
                     ("lay", 0, 6, 1, 0), ("lay", 0, 10, 2, 3, 0, 1), ("write", 0, 0, 5)):
            done(one, deed)
        return one

    def test_all_of_them(self):
        tasks, pages, many = (0, 1, -1), (0, 3, 4, 5, 6, 7, 9, 10, 15, 16, -1), (1, 2, 0, 65)
        deeds = [("fork", 7), ("end_task", 7), ("new_bank", 0), ("new_bank", 65), ("drop_bank", 0), ("drop_bank", 3)]
        for task, page, few, rights in itertools.product(tasks, pages, many, (3, 4)):
            deeds += [("lay", task, page, few, rights), ("guard", task, page, few, rights), ("lift", task, page, few)]
            for bank, start in itertools.product((0, 1), (-1, 0, 3, 4)):
                deeds.append(("lay", task, page, few, rights, bank, start))
        for task, page in itertools.product(tasks, pages):
            deeds += [("read", task, 2 * page), ("write", task, 2 * page + 1, 7)]
        for frames, slots, places in ((1, 0, 0), (1, 0, 2), (1, 1, 1), (4, 0, 0), (2, 2, 8)):
            rooms = self.furnish(Rooms(Shape(2, 2, 1), frames + slots))
            machine = self.furnish(Machine(Shape(2, 2, 1), frames, slots, places))
            for deed in deeds:
                before = told(machine)
                expected = done(copy.deepcopy(rooms), deed)
                if expected[0] == "refused":
                    self.assertEqual(done(machine, deed), expected, deed)
                    self.assertEqual(told(machine), before)
                else:
                    self.assertEqual(done(copy.deepcopy(machine), deed), expected, deed)


class MixedTest(MachineCase):
    def run_deeds(self, seed, shape, frames, slots, many):
        chooser = Chooser(seed, shape.page_count(), shape.sheet_size())
        rooms = Rooms(shape, frames + slots)
        machines = [Machine(shape, frames, slots, places) for places in (0, 1, 3, 16)]
        plain = PlainMachine(shape, frames, slots, 3)
        for step in range(many):
            deed = chooser.deed(rooms)
            before = [told(machine) for machine in machines]
            expected = done(rooms, deed)
            for machine, earlier in zip(machines, before):
                self.assertEqual(done(machine, deed), expected, deed)
                self.assertEqual(seen_whole(machine), seen_whole(rooms))
                self.check_promise(machine)
                if expected[0] == "refused":
                    self.assertEqual(told(machine), earlier, deed)
            self.assertEqual(done(plain, deed), expected)
            self.check_same_as_plain(machines[2], plain)
            for machine in machines[1:]:
                self.assertEqual(lying(machine), lying(machines[0]))
                self.assertEqual(sum(machine.counts()[:2]), sum(machines[0].counts()[:2]))
                self.assertEqual(machine.counts()[2:], machines[0].counts()[2:])
        return machines

    def test_few_frames(self):
        for seed, (frames, slots) in enumerate(itertools.product((1, 2, 3), (0, 1, 3, 6))):
            self.run_deeds(seed, Shape(2, 2, 1), frames, slots, 150)

    def test_many_frames(self):
        for seed, (frames, slots) in enumerate(((64, 64), (64, 0), (1, 64), (12, 5))):
            self.run_deeds(100 + seed, Shape(3, 1, 0), frames, slots, 150)

    def test_other_shapes(self):
        for seed, (levels, fan, grain) in enumerate(((2, 1, 4), (3, 1, 2), (2, 3, 0), (3, 2, 1))):
            self.run_deeds(200 + seed, Shape(levels, fan, grain), 3, 4, 150)

    def test_long_rows_of_deeds(self):
        # Enough of everything comes to pass for each count to have gone up.
        counts = [0] * 9
        for seed, (frames, slots) in enumerate(((2, 3), (3, 6), (5, 9))):
            for machine in self.run_deeds(300 + seed, Shape(2, 3, 1), frames, slots, 800)[1:]:
                counts = [sum(pair) for pair in zip(counts, machine.counts())]
        self.assertGreater(min(counts), 0)
        self.assertGreater(counts[4], counts[5])

    def test_a_room_of_millions_of_pages(self):
        shape = Shape(3, 8, 4)
        machine, rooms = Machine(shape, 2, 3, 2), Rooms(shape, 5)
        last = shape.page_count() - 1
        for deed in (("new_task",), ("lay", 0, last - 63, 64, 3), ("lay", 0, 0, 1, 3), ("write", 0, 16 * last + 15, 7),
                     ("write", 0, 5, 8), ("write", 0, 16 * last - 1, 9), ("fork", 0), ("read", 1, 16 * last + 15),
                     ("write", 1, 16 * last + 15, 6), ("read", 0, 16 * last + 15), ("guard", 1, last - 63, 64, 1),
                     ("lift", 0, last - 63, 64), ("fold",), ("read", 1, 16 * last + 15)):
            self.assertEqual(done(machine, deed), done(rooms, deed))
            self.assertEqual(seen_whole(machine), seen_whole(rooms))
            self.check_promise(machine)


if __name__ == "__main__":
    unittest.main()
