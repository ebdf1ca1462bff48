import copy
import random
import unittest

from frameland.errors import NoRoom
from frameland.keeper import Keeper
from frameland.shapes import Shape
from tests.plain import PlainKeeper

READ, WRITE, KEPT, SEEN, CHANGED = 1, 2, 4, 8, 16


def page(task, number):
    return ("task", task, number)


def place(bank, number):
    return ("bank", bank, number)


class KeeperCase(unittest.TestCase):
    def told(self, keeper, tasks=(0, 1, 2), banks=(0,)):
        # A copy, so that lists told and then changed are seen to be changed.
        return copy.deepcopy((
            [(keeper.told_task(task), keeper.table_count(task)) for task in tasks],
            [keeper.told_bank(bank) for bank in banks],
            keeper.told_book(), keeper.told_frames(), keeper.told_slots(), keeper.hand_at(), keeper.counts(),
        ))

    def opened(self, frames, slots, places=0):
        """Pages of two boxes, tasks 0 to 2 and bank 0 of four pages."""
        keeper = Keeper(Shape(2, 2, 1), frames, slots, places)
        for task in range(3):
            keeper.open_task(task)
        keeper.open_bank(0, 4)
        return keeper

    def entry(self, keeper, task, number):
        return dict(keeper.told_task(task)).get(number)

    def check_entry(self, keeper, task, number, where, bits):
        self.assertEqual(self.entry(keeper, task, number), 32 * where + bits)


class OpenTest(KeeperCase):
    def test_what_is_new_has_nothing_in_it(self):
        for frames, slots, places in ((1, 0, 0), (64, 64, 64), (2, 3, 1)):
            keeper = Keeper(Shape(3, 1, 4), frames, slots, places)
            self.assertEqual((keeper.told_book(), keeper.told_frames()), ([None] * places, [None] * frames))
            self.assertEqual((keeper.told_slots(), keeper.hand_at()), ([None] * slots, 0))
            self.assertEqual((keeper.counts(), keeper.live_sheets()), ((0,) * 9, 0))
            self.assertIsNone(keeper.open_task(5))
            self.assertIsNone(keeper.open_bank(6, 64))
            self.assertEqual((keeper.told_task(5), keeper.table_count(5)), ([], 1))
            self.assertEqual(keeper.told_bank(6), [None] * 64)
            self.assertIsNone(keeper.values_of(page(5, 7)))
            self.assertIsNone(keeper.values_of(place(6, 63)))
            self.assertIsNone(keeper.served(5, 7, 1))
            self.assertEqual(keeper.fold(), 0)
            self.assertIsInstance(keeper.counts(), tuple)


class TouchTest(KeeperCase):
    def test_bits_of_a_private_page_alone(self):
        for rights, want in ((1, 1), (3, 1), (2, 2), (3, 2)):
            keeper = self.opened(2, 0)
            self.assertEqual(keeper.touch(0, 5, rights, None, want), 0)
            changed = CHANGED if want == 2 else 0
            self.check_entry(keeper, 0, 5, 0, rights + KEPT + SEEN + changed)
            self.assertEqual(keeper.told_frames()[0], ([0, 0], [page(0, 5)], None))
            self.assertEqual(keeper.values_of(page(0, 5)), [0, 0])

    def test_bits_of_a_tied_page(self):
        for rights, want in ((1, 1), (3, 1), (2, 2), (3, 2)):
            keeper = self.opened(2, 0)
            self.assertEqual(keeper.touch(0, 5, rights, (0, 3), want), 0)
            changed = CHANGED if want == 2 else 0
            self.check_entry(keeper, 0, 5, 0, rights + KEPT + SEEN + changed)
            self.assertEqual(keeper.told_bank(0), [None, None, None, KEPT])
            self.assertEqual(keeper.told_frames()[0], ([0, 0], [place(0, 3), page(0, 5)], None))
            self.assertEqual(keeper.values_of(place(0, 3)), keeper.values_of(page(0, 5)))

    def test_changed_from_a_touch_that_wants_two_on(self):
        keeper = self.opened(1, 0)
        keeper.touch(0, 5, 3, None, 1)
        self.check_entry(keeper, 0, 5, 0, 3 + KEPT + SEEN)
        keeper.touch(0, 5, 3, None, 2)
        self.check_entry(keeper, 0, 5, 0, 3 + KEPT + SEEN + CHANGED)
        keeper.touch(0, 5, 3, None, 1)
        self.check_entry(keeper, 0, 5, 0, 3 + KEPT + SEEN + CHANGED)
        self.assertEqual(keeper.counts(), (0, 3, 1, 0, 0, 0, 0, 0, 1))

    def test_each_tied_page_has_bits_of_its_own(self):
        keeper = self.opened(2, 0)
        self.assertEqual(keeper.touch(0, 5, 3, (0, 1), 2), 0)
        self.assertEqual(keeper.touch(1, 9, 1, (0, 1), 1), 0)
        self.assertEqual(keeper.touch(0, 6, 3, (0, 1), 1), 0)
        self.check_entry(keeper, 0, 5, 0, 3 + KEPT + SEEN + CHANGED)
        self.check_entry(keeper, 1, 9, 0, READ + KEPT + SEEN)
        self.check_entry(keeper, 0, 6, 0, 3 + KEPT + SEEN)
        self.assertEqual(keeper.told_bank(0), [None, KEPT, None, None])
        self.assertEqual(keeper.told_frames()[0][1], [place(0, 1), page(0, 5), page(0, 6), page(1, 9)])
        self.assertEqual((keeper.counts()[2], keeper.live_sheets()), (1, 1))
        keeper.set_box(0, 1, 8)
        self.assertEqual([keeper.values_of(page(1, 9)), keeper.values_of(page(0, 6))], [[0, 8], [0, 8]])

    def test_the_hand_takes_the_bit_seen(self):
        keeper = self.opened(2, 5)
        keeper.touch(0, 0, 3, None, 2)
        keeper.touch(0, 1, 3, None, 1)
        self.assertEqual(keeper.touch(0, 2, 3, None, 1), 0)
        # Both were seen: the hand passed both and chose frame 0.
        self.check_entry(keeper, 0, 0, 0, 0)
        self.check_entry(keeper, 0, 1, 1, 3 + KEPT)
        self.check_entry(keeper, 0, 2, 0, 3 + KEPT + SEEN)
        self.assertEqual(keeper.hand_at(), 1)
        # Frame 1 is not seen any more, so it is chosen at once; frame 0 stays seen.
        self.assertEqual(keeper.touch(0, 3, 3, None, 2), 1)
        self.check_entry(keeper, 0, 2, 0, 3 + KEPT + SEEN)
        self.check_entry(keeper, 0, 1, 1, 0)
        self.assertEqual((keeper.hand_at(), keeper.counts()), (0, (0, 4, 4, 0, 2, 2, 0, 0, 4)))

    def test_seen_again_by_a_touch_changed_stays_when_passed(self):
        keeper = self.opened(2, 5)
        keeper.touch(0, 0, 3, None, 1)
        keeper.touch(0, 1, 3, None, 2)
        keeper.touch(0, 2, 3, None, 1)
        self.check_entry(keeper, 0, 1, 1, 3 + KEPT + CHANGED)
        keeper.touch(0, 1, 3, None, 1)
        self.check_entry(keeper, 0, 1, 1, 3 + KEPT + CHANGED + SEEN)

    def test_a_frame_is_marked_where_one_of_its_holders_is_seen(self):
        keeper = self.opened(2, 5)
        keeper.touch(0, 0, 3, None, 1)
        keeper.touch(0, 1, 3, None, 1)
        keeper.touch(0, 2, 3, None, 1)
        # Now page 2 in frame 0 is seen, page 1 in frame 1 is not; another task's page of that sheet is seen, though.
        keeper.share(0, 1, 1)
        self.check_entry(keeper, 1, 1, 1, READ + KEPT)
        keeper.touch(1, 1, 3, None, 1)
        self.check_entry(keeper, 0, 1, 1, READ + KEPT)
        self.check_entry(keeper, 1, 1, 1, READ + KEPT + SEEN)
        self.assertEqual(keeper.touch(0, 3, 3, None, 1), 1)
        self.assertEqual(keeper.hand_at(), 0)
        self.check_entry(keeper, 0, 2, 0, 3 + KEPT)

    def test_put_out_and_brought_back(self):
        keeper = self.opened(1, 2)
        keeper.touch(0, 0, 3, None, 2)
        keeper.set_box(0, 0, 7)
        self.assertEqual(keeper.touch(0, 1, 1, None, 1), 0)
        self.check_entry(keeper, 0, 0, 0, 0)
        self.assertEqual(keeper.values_of(page(0, 0)), [7, 0])
        self.assertEqual(keeper.touch(0, 0, 3, None, 1), 0)
        self.check_entry(keeper, 0, 0, 0, 3 + KEPT + SEEN)
        self.check_entry(keeper, 0, 1, 1, 0)
        self.assertEqual((keeper.told_frames(), keeper.box_of(0, 0)), ([([7, 0], [page(0, 0)], 0)], 7))
        self.assertEqual(keeper.touch(0, 1, 1, None, 1), 0)
        self.assertEqual(keeper.counts(), (0, 4, 2, 0, 3, 2, 2, 0, 2))

    def test_brought_back_with_the_rights_guarded_last(self):
        keeper = self.opened(1, 2)
        keeper.touch(0, 0, 3, None, 2)
        keeper.share(0, 0, 1)
        keeper.share(0, 0, 2)
        keeper.touch(0, 1, 1, None, 1)
        for task in range(3):
            self.check_entry(keeper, task, 0, 0, 0)
        keeper.guard(1, 0, 2)
        keeper.guard(2, 0, 0)
        self.check_entry(keeper, 1, 0, 0, 0)
        keeper.touch(0, 0, 3, None, 1)
        self.check_entry(keeper, 0, 0, 0, READ + KEPT + SEEN)
        self.check_entry(keeper, 1, 0, 0, KEPT)
        self.check_entry(keeper, 2, 0, 0, KEPT)
        keeper.release(0, 0)
        keeper.release(2, 0)
        self.check_entry(keeper, 1, 0, 0, WRITE + KEPT)

    def test_tied_pages_lose_their_entry_when_the_sheet_is_put_out(self):
        keeper = self.opened(1, 2, 4)
        keeper.touch(0, 5, 3, (0, 1), 2)
        keeper.set_box(0, 1, 9)
        keeper.touch(1, 6, 3, (0, 1), 1)
        self.assertEqual(keeper.touch(0, 0, 3, None, 1), 0)
        self.assertEqual((keeper.told_task(0), keeper.told_task(1)), ([(0, 3 + KEPT + SEEN)], []))
        self.assertEqual((keeper.table_count(0), keeper.table_count(1)), (2, 1))
        self.assertEqual(keeper.told_bank(0), [None, 0, None, None])
        self.assertEqual(keeper.told_slots(), [([0, 9], [place(0, 1)], None), None])
        self.assertEqual((keeper.values_of(place(0, 1)), keeper.values_of(page(0, 5))), ([0, 9], None))
        self.assertEqual(keeper.told_book(), [(0, 0, 3 + KEPT + SEEN, False), None, None, None])
        # Brought back by another page: only this one and the bank's hold it.
        self.assertEqual(keeper.touch(2, 7, 1, (0, 1), 1), 0)
        self.assertEqual(keeper.told_frames(), [([0, 9], [place(0, 1), page(2, 7)], 0)])
        self.assertEqual((keeper.told_bank(0), keeper.told_task(0)), ([None, KEPT, None, None], [(0, 32)]))
        self.assertEqual(keeper.counts(), (0, 4, 2, 0, 2, 2, 1, 0, 2))

    def test_no_room_for_a_private_page(self):
        for want in (1, 2):
            keeper = self.opened(1, 1, 2)
            keeper.touch(0, 0, 3, None, 2)
            keeper.touch(0, 1, 3, None, 2)
            before = self.told(keeper)
            with self.assertRaises(NoRoom):
                keeper.touch(0, 2, 3, None, want)
            with self.assertRaises(NoRoom):
                keeper.touch(1, 2, 3, (0, 0), want)
            self.assertEqual(self.told(keeper), before)
            self.assertEqual(keeper.touch(0, 0, 3, None, 2), 0)

    def test_no_room_for_a_sheet_of_its_own(self):
        keeper = self.opened(1, 1, 2)
        keeper.touch(0, 0, 3, None, 2)
        keeper.share(0, 0, 1)
        keeper.touch(0, 1, 3, None, 2)
        for task in (0, 1):
            before = self.told(keeper)
            with self.assertRaises(NoRoom):
                keeper.touch(task, 0, 3, None, 2)
            self.assertEqual(self.told(keeper), before)
        keeper.touch(0, 0, 3, None, 1)
        before = self.told(keeper)
        with self.assertRaises(NoRoom):
            keeper.touch(1, 0, 3, None, 2)
        self.assertEqual(self.told(keeper), before)
        keeper.release(0, 1)
        self.assertEqual(keeper.touch(1, 0, 3, None, 2), 0)
        self.assertEqual((keeper.live_sheets(), keeper.counts()[3]), (2, 1))

    def test_a_tied_page_of_a_sheet_that_others_hold_needs_none(self):
        keeper = self.opened(1, 0)
        keeper.touch(0, 5, 3, (0, 1), 1)
        self.assertEqual(keeper.touch(1, 5, 3, (0, 1), 2), 0)
        self.assertEqual(keeper.touch(0, 5, 3, (0, 1), 2), 0)
        self.assertEqual(keeper.live_sheets(), 1)


class OwnSheetTest(KeeperCase):
    def shared(self, frames, slots, places=0):
        keeper = self.opened(frames, slots, places)
        keeper.touch(0, 0, 3, None, 2)
        keeper.set_box(0, 0, 7)
        keeper.share(0, 0, 1)
        return keeper

    def test_from_a_frame(self):
        keeper = self.shared(2, 1)
        self.check_entry(keeper, 0, 0, 0, READ + KEPT + SEEN + CHANGED)
        self.check_entry(keeper, 1, 0, 0, READ + KEPT)
        self.assertEqual(keeper.touch(1, 0, 3, None, 2), 1)
        self.check_entry(keeper, 0, 0, 0, 3 + KEPT + SEEN + CHANGED)
        self.check_entry(keeper, 1, 0, 1, 3 + KEPT + SEEN + CHANGED)
        self.assertEqual(keeper.told_frames(), [([7, 0], [page(0, 0)], None), ([7, 0], [page(1, 0)], None)])
        self.assertEqual(keeper.counts(), (0, 2, 1, 1, 0, 0, 0, 0, 2))
        keeper.set_box(1, 1, 8)
        self.assertEqual((keeper.values_of(page(0, 0)), keeper.values_of(page(1, 0))), ([7, 0], [7, 8]))

    def test_its_entry_is_gone_when_the_hand_goes(self):
        keeper = self.opened(2, 2)
        keeper.touch(0, 0, 3, None, 1)
        keeper.touch(0, 1, 3, None, 1)
        keeper.touch(0, 2, 3, None, 1)
        # Frame 0 is seen by page 2, frame 1 by nobody, and the hand stands there.
        keeper.share(0, 1, 1)
        keeper.touch(1, 1, 3, None, 1)
        # Only the entry of task 1 makes frame 1 seen; it goes ahead of the hand, which then chooses frame 1 at once.
        self.assertEqual(keeper.touch(1, 1, 3, None, 2), 1)
        self.check_entry(keeper, 0, 2, 0, 3 + KEPT + SEEN)
        self.check_entry(keeper, 0, 1, 1, 0)
        self.assertEqual((keeper.hand_at(), keeper.counts()[3]), (0, 1))

    def test_from_a_slot(self):
        keeper = self.shared(1, 2)
        keeper.touch(0, 1, 3, None, 1)
        self.check_entry(keeper, 1, 0, 0, 0)
        self.assertEqual(keeper.touch(1, 0, 3, None, 2), 0)
        # The other one's sheet stays in its slot, and is not brought back.
        self.check_entry(keeper, 0, 0, 0, 0)
        self.check_entry(keeper, 1, 0, 0, 3 + KEPT + SEEN + CHANGED)
        self.assertEqual(keeper.told_frames(), [([7, 0], [page(1, 0)], None)])
        self.assertEqual(keeper.counts(), (0, 3, 2, 1, 2, 2, 0, 0, 3))

    def test_three_holders(self):
        keeper = self.shared(3, 0)
        keeper.share(0, 0, 2)
        keeper.touch(2, 0, 3, None, 2)
        self.check_entry(keeper, 0, 0, 0, READ + KEPT + SEEN + CHANGED)
        self.check_entry(keeper, 1, 0, 0, READ + KEPT)
        keeper.touch(0, 0, 3, None, 2)
        self.check_entry(keeper, 0, 0, 2, 3 + KEPT + SEEN + CHANGED)
        self.check_entry(keeper, 1, 0, 0, 3 + KEPT)
        # The last one holds it alone: no sheet more.
        self.assertEqual(keeper.touch(1, 0, 3, None, 2), 0)
        self.assertEqual((keeper.counts()[3], keeper.live_sheets()), (2, 3))

    def test_the_row_of_the_one_left_alone_is_struck(self):
        keeper = self.shared(2, 0, 4)
        keeper.touch(0, 0, 3, None, 1)
        self.assertEqual(keeper.told_book()[0], (0, 0, READ + KEPT + SEEN + CHANGED, False))
        keeper.touch(1, 0, 3, None, 2)
        self.assertEqual(keeper.told_book(), [(1, 0, 32 + 3 + KEPT + SEEN + CHANGED, False), None, None, None])


class ServedTest(KeeperCase):
    def test_for_reading(self):
        for rights, want in ((1, 1), (3, 1), (3, 2)):
            keeper = self.opened(2, 0, 2)
            keeper.touch(0, 5, rights, None, want)
            self.assertEqual(keeper.served(0, 5, 1), 0)
            self.assertEqual(keeper.told_book()[0][3], True)
            self.assertEqual(keeper.counts(), (1, 1, 1, 0, 0, 0, 0, 0, 1))
        keeper = self.opened(2, 0, 2)
        keeper.touch(0, 5, 2, None, 2)
        self.check_not_served(keeper, 0, 5, 1)
        self.assertEqual(keeper.served(0, 5, 2), 0)

    def check_not_served(self, keeper, task, number, want):
        before = self.told(keeper)
        self.assertIsNone(keeper.served(task, number, want))
        self.assertEqual(self.told(keeper), before)

    def test_for_writing(self):
        keeper = self.opened(2, 0, 2)
        keeper.touch(0, 4, 1, None, 1)
        self.assertEqual(keeper.touch(0, 5, 3, None, 1), 1)
        self.check_not_served(keeper, 0, 5, 2)
        keeper.touch(0, 5, 3, None, 2)
        self.assertEqual(keeper.served(0, 5, 2), 1)
        self.assertEqual(keeper.served(0, 5, 1), 1)
        self.assertEqual(keeper.counts()[:2], (2, 3))
        self.check_not_served(keeper, 0, 4, 2)

    def test_changed_alone_does_not_suffice_for_writing(self):
        keeper = self.opened(2, 0, 2)
        keeper.touch(0, 5, 3, None, 2)
        keeper.share(0, 5, 1)
        keeper.touch(0, 5, 3, None, 1)
        self.check_entry(keeper, 0, 5, 0, READ + KEPT + SEEN + CHANGED)
        self.check_not_served(keeper, 0, 5, 2)
        self.assertEqual(keeper.served(0, 5, 1), 0)

    def test_tied_pages(self):
        keeper = self.opened(2, 0, 2)
        keeper.touch(0, 4, 1, None, 1)
        keeper.touch(0, 5, 3, (0, 2), 2)
        keeper.touch(1, 5, 3, (0, 2), 1)
        self.assertEqual((keeper.served(1, 5, 1), keeper.served(1, 5, 2)), (1, None))
        keeper.touch(1, 5, 3, (0, 2), 2)
        self.assertEqual(keeper.served(1, 5, 2), 1)

    def test_not_served(self):
        keeper = self.opened(2, 1, 2)
        keeper.touch(0, 5, 3, None, 2)
        for task, number in ((0, 4), (1, 5), (0, 0)):
            self.check_not_served(keeper, task, number, 1)
            self.check_not_served(keeper, task, number, 2)
        without = self.opened(2, 1, 0)
        without.touch(0, 5, 3, None, 2)
        self.check_not_served(without, 0, 5, 1)
        keeper.touch(0, 6, 3, None, 2)
        keeper.touch(0, 7, 3, None, 2)
        # Page 5 is put out and page 6 is not seen any more: both rows are struck.
        self.check_not_served(keeper, 0, 5, 1)
        self.check_not_served(keeper, 0, 6, 1)
        self.assertEqual(keeper.served(0, 7, 2), 0)

    def test_a_row_stays_used_where_its_entry_stays(self):
        keeper = self.opened(2, 1, 2)
        keeper.touch(0, 5, 3, None, 1)
        keeper.served(0, 5, 1)
        keeper.touch(0, 5, 3, None, 1)
        self.assertEqual(keeper.told_book()[0], (0, 5, 3 + KEPT + SEEN, True))
        keeper.touch(0, 5, 3, None, 2)
        self.assertEqual(keeper.told_book()[0], (0, 5, 3 + KEPT + SEEN + CHANGED, False))


class ReleaseTest(KeeperCase):
    def test_release_of_a_private_page(self):
        keeper = self.opened(2, 1, 2)
        keeper.touch(0, 5, 3, None, 2)
        self.assertIsNone(keeper.release(0, 5))
        self.assertEqual((keeper.told_task(0), keeper.table_count(0), keeper.live_sheets()), ([], 1, 0))
        self.assertEqual((keeper.told_frames(), keeper.told_book()), ([None, None], [None, None]))
        self.assertIsNone(keeper.values_of(page(0, 5)))
        keeper.touch(0, 5, 1, (0, 0), 1)
        self.check_entry(keeper, 0, 5, 0, READ + KEPT + SEEN)

    def test_release_in_a_slot(self):
        keeper = self.opened(1, 1)
        keeper.touch(0, 5, 3, None, 2)
        keeper.share(0, 5, 1)
        keeper.touch(0, 6, 3, None, 2)
        keeper.release(0, 5)
        self.assertEqual(keeper.told_slots(), [([0, 0], [page(1, 5)], None)])
        self.check_entry(keeper, 1, 5, 0, 0)
        keeper.release(1, 5)
        self.assertEqual((keeper.told_slots(), keeper.live_sheets()), ([None], 1))

    def test_the_one_left_alone_may_write(self):
        keeper = self.opened(2, 1, 4)
        keeper.touch(0, 5, 3, None, 1)
        keeper.share(0, 5, 1)
        keeper.share(0, 5, 2)
        keeper.touch(1, 5, 3, None, 1)
        keeper.release(0, 5)
        self.check_entry(keeper, 1, 5, 0, READ + KEPT + SEEN)
        self.assertEqual(keeper.served(1, 5, 1), 0)
        keeper.release(2, 5)
        self.check_entry(keeper, 1, 5, 0, 3 + KEPT + SEEN)
        self.assertIsNone(keeper.served(1, 5, 1))

    def test_release_of_a_tied_page(self):
        keeper = self.opened(2, 1, 4)
        keeper.touch(0, 5, 3, (0, 0), 2)
        keeper.touch(1, 5, 3, (0, 0), 1)
        keeper.set_box(0, 0, 6)
        keeper.release(0, 5)
        self.assertEqual((keeper.told_task(0), keeper.told_bank(0)), ([], [KEPT, None, None, None]))
        self.assertEqual(keeper.told_book(), [None, (1, 5, 3 + KEPT + SEEN, False), None, None])
        keeper.release(1, 5)
        self.assertEqual(keeper.told_frames(), [([6, 0], [place(0, 0)], None), None])
        self.assertEqual(keeper.values_of(place(0, 0)), [6, 0])

    def test_nothing_where_there_is_no_entry(self):
        keeper = self.opened(2, 1, 2)
        keeper.touch(0, 5, 3, None, 2)
        before = self.told(keeper)
        self.assertIsNone(keeper.release(0, 4))
        self.assertIsNone(keeper.release(1, 5))
        self.assertIsNone(keeper.guard(0, 4, 0))
        self.assertIsNone(keeper.guard(1, 5, 0))
        self.assertIsNone(keeper.share(0, 4, 1))
        self.assertIsNone(keeper.share(1, 5, 2))
        self.assertEqual(self.told(keeper), before)


class GuardTest(KeeperCase):
    def test_every_rights_seen_and_changed_stay(self):
        for want in (1, 2):
            for tie in (None, (0, 1)):
                keeper = self.opened(2, 1, 2)
                keeper.touch(0, 5, 3, tie, want)
                for rights in (0, 1, 2, 3, 0):
                    self.assertIsNone(keeper.guard(0, 5, rights))
                    self.check_entry(keeper, 0, 5, 0, rights + KEPT + SEEN + (CHANGED if want == 2 else 0))

    def test_a_shared_page_gets_no_write(self):
        keeper = self.opened(2, 1, 2)
        keeper.touch(0, 5, 1, None, 1)
        keeper.share(0, 5, 1)
        for rights, bits in ((3, 1), (2, 0), (1, 1), (0, 0), (3, 1)):
            keeper.guard(1, 5, rights)
            self.check_entry(keeper, 1, 5, 0, bits + KEPT)
            self.check_entry(keeper, 0, 5, 0, READ + KEPT + SEEN)
        keeper.release(0, 5)
        self.check_entry(keeper, 1, 5, 0, 3 + KEPT)

    def test_the_row_in_the_book(self):
        keeper = self.opened(2, 1, 2)
        keeper.touch(0, 5, 3, None, 2)
        keeper.guard(0, 5, 3)
        self.assertEqual(keeper.served(0, 5, 2), 0)
        keeper.guard(0, 5, 1)
        self.assertEqual(keeper.told_book(), [None, None])
        keeper.touch(0, 5, 1, None, 1)
        self.assertEqual(keeper.served(0, 5, 1), 0)
        self.assertIsNone(keeper.served(0, 5, 2))

    def test_where_there_is_no_entry_the_next_touch_tells_the_rights(self):
        keeper = self.opened(2, 1)
        keeper.guard(0, 5, 0)
        keeper.touch(0, 5, 3, None, 2)
        self.check_entry(keeper, 0, 5, 0, 3 + KEPT + SEEN + CHANGED)


class ShareTest(KeeperCase):
    def test_in_a_frame(self):
        for rights, want in ((1, 1), (2, 2), (3, 1), (3, 2)):
            keeper = self.opened(2, 1, 2)
            keeper.touch(0, 5, rights, None, want)
            self.assertIsNone(keeper.share(0, 5, 2))
            changed = CHANGED if want == 2 else 0
            self.check_entry(keeper, 0, 5, 0, rights % 2 + KEPT + SEEN + changed)
            self.check_entry(keeper, 2, 5, 0, rights % 2 + KEPT)
            self.assertEqual(keeper.told_frames()[0][1], [page(0, 5), page(2, 5)])
            # The row is struck just where the entry became another one.
            self.assertEqual(keeper.told_book()[0] is None, rights >= 2)
            keeper.release(0, 5)
            self.check_entry(keeper, 2, 5, 0, rights + KEPT)

    def test_in_a_slot(self):
        keeper = self.opened(1, 1)
        keeper.touch(0, 5, 3, None, 2)
        keeper.touch(0, 6, 3, None, 2)
        keeper.share(0, 5, 1)
        self.check_entry(keeper, 1, 5, 0, 0)
        self.assertEqual(keeper.told_slots(), [([0, 0], [page(0, 5), page(1, 5)], None)])

    def test_nothing_where_it_is_tied(self):
        keeper = self.opened(1, 1, 1)
        keeper.touch(0, 5, 3, (0, 0), 2)
        before = self.told(keeper)
        self.assertIsNone(keeper.share(0, 5, 1))
        self.assertEqual(self.told(keeper), before)

    def test_the_rights_guarded_last_are_shared(self):
        keeper = self.opened(2, 1)
        keeper.touch(0, 5, 3, None, 2)
        keeper.guard(0, 5, 1)
        keeper.share(0, 5, 1)
        keeper.release(0, 5)
        self.check_entry(keeper, 1, 5, 0, READ + KEPT)


class CloseTest(KeeperCase):
    def test_a_task(self):
        keeper = self.opened(3, 1, 4)
        keeper.touch(0, 5, 3, None, 2)
        keeper.touch(0, 6, 3, None, 2)
        keeper.touch(0, 7, 3, (0, 3), 2)
        keeper.share(0, 6, 1)
        self.assertIsNone(keeper.close_task(0))
        self.assertEqual(keeper.told_frames(), [None, ([0, 0], [page(1, 6)], None), ([0, 0], [place(0, 3)], None)])
        self.check_entry(keeper, 1, 6, 1, 3 + KEPT)
        self.assertEqual((keeper.told_book(), keeper.live_sheets()), ([None] * 4, 2))
        keeper.open_task(0)
        self.assertEqual((keeper.told_task(0), keeper.table_count(0)), ([], 1))
        # What was handed in of the closed task is forgotten.
        keeper.touch(0, 7, 1, None, 1)
        self.check_entry(keeper, 0, 7, 0, READ + KEPT + SEEN)

    def test_a_bank(self):
        keeper = self.opened(1, 2)
        keeper.touch(0, 5, 3, (0, 0), 2)
        keeper.touch(0, 6, 3, (0, 3), 2)
        keeper.release(0, 6)
        self.assertEqual((keeper.told_bank(0), keeper.live_sheets()), ([0, None, None, KEPT], 2))
        self.assertIsNone(keeper.close_bank(0))
        self.assertEqual((keeper.told_frames(), keeper.told_slots(), keeper.live_sheets()), ([None], [None, None], 0))
        keeper.open_bank(0, 2)
        self.assertEqual(keeper.told_bank(0), [None, None])
        keeper.touch(0, 5, 3, (0, 0), 1)
        self.assertEqual(keeper.values_of(place(0, 0)), [0, 0])


class FoldTest(KeeperCase):
    def test_in_frames(self):
        keeper = self.opened(3, 0, 4)
        keeper.touch(0, 5, 3, None, 2)
        keeper.touch(0, 6, 3, None, 2)
        keeper.touch(1, 5, 1, None, 1)
        self.assertEqual(keeper.fold(), 2)
        self.check_entry(keeper, 0, 5, 0, READ + KEPT + SEEN + CHANGED)
        self.check_entry(keeper, 0, 6, 0, READ + KEPT)
        self.check_entry(keeper, 1, 5, 0, READ + KEPT)
        self.assertEqual(keeper.told_frames(), [([0, 0], [page(0, 5), page(0, 6), page(1, 5)], None), None, None])
        self.assertEqual((keeper.told_book(), keeper.counts()), ([None] * 4, (0, 3, 3, 0, 0, 0, 0, 2, 1)))
        self.assertEqual((keeper.fold(), keeper.counts()[7]), (0, 2))
        self.assertEqual(keeper.touch(0, 6, 3, None, 2), 1)
        self.assertEqual(keeper.counts()[3], 1)

    def test_a_slot_s_sheet_into_a_frame_s_and_into_a_slot_s(self):
        keeper = self.opened(1, 3)
        for number in (5, 6, 7, 8):
            keeper.touch(0, number, 3, None, 2)
            keeper.set_box(0, 0, number % 2)
        # Slots: 5, 6, 7 with the values 1, 0, 1; the frame: 8 with 0.
        self.assertEqual(keeper.fold(), 2)
        self.check_entry(keeper, 0, 6, 0, READ + KEPT)
        self.check_entry(keeper, 0, 8, 0, READ + KEPT + SEEN + CHANGED)
        self.check_entry(keeper, 0, 5, 0, 0)
        self.check_entry(keeper, 0, 7, 0, 0)
        self.assertEqual(keeper.told_slots(), [([1, 0], [page(0, 5), page(0, 7)], None), None, None])
        # Brought back together, and let go one by one.
        keeper.touch(0, 7, 3, None, 1)
        self.check_entry(keeper, 0, 5, 0, READ + KEPT)
        keeper.release(0, 7)
        self.check_entry(keeper, 0, 5, 0, 3 + KEPT)

    def test_banks_and_ties_stay(self):
        keeper = self.opened(3, 0, 3)
        keeper.touch(0, 5, 3, (0, 0), 2)
        keeper.touch(0, 6, 3, (0, 1), 2)
        keeper.touch(0, 7, 3, None, 2)
        before = self.told(keeper)
        self.assertEqual(keeper.fold(), 0)
        self.assertEqual(self.told(keeper), before)

    def test_rows_of_the_book_where_nothing_becomes_another(self):
        keeper = self.opened(3, 0, 3)
        keeper.touch(0, 5, 1, None, 1)
        keeper.touch(0, 6, 1, None, 1)
        keeper.touch(0, 7, 3, (0, 0), 1)
        keeper.served(0, 5, 1)
        self.assertEqual(keeper.fold(), 1)
        self.assertEqual(keeper.told_book(), [
            (0, 5, READ + KEPT + SEEN, True), None, (0, 7, 64 + 3 + KEPT + SEEN, False),
        ])


class WholeTest(KeeperCase):
    def test_many_deeds_as_the_plain_keeper(self):
        for seed in range(40):
            chance = random.Random(seed)
            frames, slots = chance.choice((1, 2, 3, 5)), chance.choice((0, 1, 2, 4, 7))
            places = chance.choice((0, 1, 3, 8))
            keeper, plain = self.opened(frames, slots, places), PlainKeeper(2, frames, slots, places)
            mapped = {}
            for deed in range(200):
                self.do_one(chance, keeper, plain, mapped)
                self.check(keeper, plain)

    def do_one(self, chance, keeper, plain, mapped):
        task, number = chance.randrange(3), chance.randrange(5)
        held = sorted(holder for holder in plain.pages if holder[0] == "task")
        if held and chance.random() < 0.5:
            task, number = chance.choice(held)[1:]
        if page(task, number) not in plain.pages:
            mapped[(task, number)] = (chance.randint(1, 3), chance.choice((None, None, (0, chance.randrange(2)))))
        rights, tie = mapped[(task, number)]
        kind = chance.choice(("touch",) * 8 + ("served", "release", "guard", "share", "fold", "close", "bank", "set"))
        if kind == "touch" and rights > 0:
            self.touch_both(chance, keeper, plain, (task, number, rights, tie))
        elif kind == "served":
            want = chance.randint(1, 2)
            self.assertEqual(keeper.served(task, number, want), plain.served(task, number, want))
        elif kind == "release":
            keeper.release(task, number)
            plain.release(task, number)
        elif kind == "guard":
            rights = chance.randrange(4)
            keeper.guard(task, number, rights)
            plain.guard(task, number, rights)
            mapped[(task, number)] = (rights, tie)
        elif kind == "share":
            other = (task + 1) % 3
            if page(other, number) not in plain.pages:
                mapped[(other, number)] = (rights, tie)
                keeper.share(task, number, other)
                plain.share(task, number, other)
        elif kind == "fold":
            self.assertEqual(keeper.fold(), plain.fold())
        elif kind == "close" and chance.random() < 0.2:
            keeper.close_task(task)
            keeper.open_task(task)
            plain.close_task(task)
        elif kind == "bank" and not any(state.get("tie") for state in plain.pages.values()):
            keeper.close_bank(0)
            keeper.open_bank(0, 4)
            plain.close_bank(0)
        elif kind == "set":
            in_frames = [spot for spot, sheet in enumerate(keeper.told_frames()) if sheet is not None]
            if in_frames:
                handed = (chance.choice(in_frames), chance.randrange(2), chance.randrange(2))
                keeper.set_box(*handed)
                plain.set_box(*handed)

    def touch_both(self, chance, keeper, plain, handed):
        want = chance.choice([want for want in (1, 2) if handed[2] & want])
        before = self.told(keeper)
        try:
            frame = plain.touch(*handed, want)
        except NoRoom:
            with self.assertRaises(NoRoom):
                keeper.touch(*handed, want)
            self.assertEqual(self.told(keeper), before)
        else:
            self.assertEqual(keeper.touch(*handed, want), frame)

    def check(self, keeper, plain):
        entries = plain.entries()
        for task in range(3):
            rows = sorted((holder[2], entry) for holder, entry in entries.items() if holder[:2] == ("task", task))
            self.assertEqual(keeper.told_task(task), rows)
        self.assertEqual(keeper.told_bank(0), [entries.get(place(0, number)) for number in range(4)])
        self.assertEqual(keeper.told_frames(), plain.sheets.told_frames())
        self.assertEqual(keeper.told_slots(), plain.sheets.told_slots())
        self.assertEqual((keeper.hand_at(), keeper.counts()), (plain.sheets.hand, plain.counts()))
        self.assertEqual(keeper.told_book(), plain.book.told())
        for sheet in plain.sheets.live:
            for holder in sheet["holders"]:
                self.assertEqual(keeper.values_of(holder), sheet["values"])
        self.assertEqual(keeper.live_sheets(), len(plain.sheets.live))

    def test_lists_told_and_then_changed(self):
        keeper = self.opened(1, 2, 2)
        keeper.touch(0, 5, 3, None, 2)
        keeper.touch(0, 6, 3, (0, 0), 2)
        keeper.touch(0, 5, 3, None, 1)
        before = self.told(keeper)
        for told in (keeper.told_frames(), keeper.told_slots()):
            for row in told:
                row[0].append(9)
                row[1].append(9)
            told.clear()
        for told in (keeper.told_task(0), keeper.told_bank(0), keeper.told_book(), keeper.values_of(page(0, 5))):
            told.clear()
        self.assertEqual(self.told(keeper), before)
        kept = (keeper.told_task(0), keeper.told_bank(0), keeper.told_frames(), keeper.values_of(page(0, 5)))
        asked = copy.deepcopy(kept)
        keeper.set_box(0, 0, 4)
        keeper.touch(0, 6, 3, (0, 0), 2)
        self.assertEqual(kept, asked)

    def test_two_beside_one_another(self):
        shape = Shape(2, 2, 1)
        one, other = Keeper(shape, 1, 1, 1), Keeper(shape, 1, 1, 1)
        for keeper in (one, other):
            keeper.open_task(0)
        one.touch(0, 0, 3, None, 2)
        one.set_box(0, 0, 5)
        self.assertEqual((other.told_task(0), other.told_frames(), other.counts()), ([], [None], (0,) * 9))
        other.touch(0, 0, 1, None, 1)
        self.assertEqual((other.box_of(0, 0), one.box_of(0, 0)), (0, 5))

    def test_arguments_bear_their_names(self):
        keeper = Keeper(places=1, slots=1, frames=1, shape=Shape(2, 2, 1))
        keeper.open_task(task=0)
        keeper.open_task(task=1)
        keeper.open_bank(many=1, bank=0)
        self.assertEqual(keeper.touch(want=2, tie=None, rights=3, page=5, task=0), 0)
        keeper.set_box(value=7, box=1, frame=0)
        self.assertEqual((keeper.box_of(box=1, frame=0), keeper.values_of(holder=page(0, 5))), (7, [0, 7]))
        self.assertEqual(keeper.served(want=2, page=5, task=0), 0)
        keeper.share(other=1, page=5, task=0)
        keeper.guard(rights=1, page=5, task=1)
        keeper.release(page=5, task=0)
        self.assertEqual((keeper.told_task(task=1), keeper.table_count(task=1)), ([(5, READ + KEPT)], 2))
        self.assertEqual(keeper.told_bank(bank=0), [None])
        keeper.close_task(task=0)
        keeper.close_bank(bank=0)


if __name__ == "__main__":
    unittest.main()
