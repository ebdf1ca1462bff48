import copy
import random
import unittest

from frameland.errors import NoRoom
from frameland.sheets import Sheets
from tests.plain import PlainSheets, frame, slot

GREAT = 10 ** 299 + 7


def page(number, task=0):
    return ("task", task, number)


class SheetsCase(unittest.TestCase):
    def told(self, sheets):
        # A copy, so that lists told and then changed are seen to be changed.
        return copy.deepcopy(
            (sheets.told_frames(), sheets.told_slots(), sheets.hand_at(), sheets.moved(), sheets.live_sheets()))

    def filled(self, frames, slots, many):
        """Sheets [k, 0] held by page k of task 0; the hand goes over unmarked frames."""
        sheets = Sheets(frames, slots, 2)
        for number in range(many):
            sheets.fresh([number, 0], page(number), [False] * frames)
        return sheets


class FreshTest(SheetsCase):
    def test_what_is_new_has_nothing_in_it(self):
        for frames, slots in ((1, 0), (2, 3), (64, 64)):
            sheets = Sheets(frames, slots, 4)
            self.assertEqual(self.told(sheets), ([None] * frames, [None] * slots, 0, (0, 0, 0), 0))
            self.assertEqual(sheets.holders_of(frame(0)), [])
            self.assertIsNone(sheets.sheet_at(frame(frames - 1)))
            self.assertEqual(sheets.fold(), [])

    def test_the_first_empty_frame_and_marks_not_looked_at(self):
        sheets = Sheets(3, 1, 2)
        self.assertEqual(sheets.fresh([1, 2], page(4), [True, True, True]), (0, [], None))
        self.assertEqual(sheets.fresh([3, 4], page(5), []), (1, [], None))
        self.assertEqual(sheets.fresh([5, 6], page(6), [False]), (2, [], None))
        self.assertEqual(sheets.told_frames(), [
            ([1, 2], [page(4)], None), ([3, 4], [page(5)], None), ([5, 6], [page(6)], None),
        ])
        self.assertEqual((sheets.told_slots(), sheets.hand_at(), sheets.moved()), ([None], 0, (0, 0, 0)))
        sheets.let_go(frame(1), page(5))
        self.assertEqual(sheets.fresh([7, 8], page(7), [True] * 3), (1, [], None))
        self.assertEqual(sheets.hand_at(), 0)

    def test_the_hand_by_the_marks(self):
        sheets = self.filled(3, 9, 3)
        self.assertEqual(sheets.fresh([9, 9], page(9), [True, False, True]), (1, [0], (0, [page(1)])))
        self.assertEqual(sheets.hand_at(), 2)
        self.assertEqual(sheets.fresh([8, 8], page(8), [True, True, True]), (2, [2, 0, 1], (1, [page(2)])))
        self.assertEqual(sheets.hand_at(), 0)
        self.assertEqual(sheets.fresh([7, 7], page(7), [False, False, False]), (0, [], (2, [page(0)])))
        self.assertEqual(sheets.hand_at(), 1)
        self.assertEqual(sheets.told_slots()[:4], [
            ([1, 0], [page(1)], None), ([2, 0], [page(2)], None), ([0, 0], [page(0)], None), None,
        ])
        self.assertEqual((sheets.moved(), sheets.live_sheets()), ((3, 3, 0), 6))

    def test_one_frame(self):
        sheets = self.filled(1, 2, 1)
        self.assertEqual(sheets.fresh([1, 0], page(1), [True]), (0, [0], (0, [page(0)])))
        self.assertEqual(sheets.hand_at(), 0)
        self.assertEqual(sheets.fresh([2, 0], page(2), [False]), (0, [], (1, [page(1)])))

    def test_no_room_at_a_full_house(self):
        for frames, slots in ((1, 0), (1, 1), (2, 3), (3, 0)):
            sheets = self.filled(frames, slots, frames + slots)
            before = self.told(sheets)
            for mark in (False, True):
                with self.assertRaises(NoRoom):
                    sheets.fresh([9, 9], page(99), [mark] * frames)
                self.assertEqual(self.told(sheets), before)
            sheets.let_go(frame(0), sheets.holders_of(frame(0))[0])
            self.assertEqual(sheets.fresh([9, 9], page(99), []), (0, [], None))

    def test_kinds(self):
        sheets = self.filled(1, 1, 1)
        answer = sheets.fresh([1, 0], page(1), [True])
        kinds = [type(part) for part in (answer, answer[1], answer[2], answer[2][1])]
        self.assertEqual(kinds, [tuple, list, tuple, list])
        self.assertIsInstance(sheets.told_frames()[0], tuple)
        self.assertIsInstance(sheets.told_slots()[0], tuple)
        self.assertIsInstance(sheets.moved(), tuple)


class BackTest(SheetsCase):
    def test_into_an_empty_frame_the_slot_is_the_twin(self):
        sheets = self.filled(2, 2, 3)
        sheets.let_go(frame(1), page(1))
        self.assertEqual(sheets.back(0, [True, True]), (1, [], None))
        self.assertEqual(sheets.told_frames(), [([2, 0], [page(2)], None), ([0, 0], [page(0)], 0)])
        self.assertEqual(sheets.told_slots(), [([0, 0], [], 1), None])
        self.assertEqual((sheets.hand_at(), sheets.moved(), sheets.live_sheets()), (1, (1, 1, 1), 2))
        self.assertIsNone(sheets.sheet_at(slot(0)))
        self.assertEqual(sheets.holders_of(slot(0)), [])

    def test_with_all_its_holders(self):
        sheets = self.filled(1, 2, 1)
        sheets.hold(frame(0), ("bank", 3, 4))
        sheets.hold(frame(0), page(7, 5))
        holders = [("bank", 3, 4), page(0), page(7, 5)]
        self.assertEqual(sheets.fresh([1, 0], page(1), [False]), (0, [], (0, holders)))
        self.assertEqual(sheets.holders_of(slot(0)), holders)
        self.assertEqual(sheets.back(0, [False]), (0, [], (1, [page(1)])))
        self.assertEqual(sheets.told_frames(), [([0, 0], holders, 0)])

    def test_put_out_into_the_own_twin(self):
        sheets = self.filled(1, 3, 2)
        sheets.back(0, [False])
        self.assertEqual((sheets.told_frames()[0][2], sheets.moved()), (0, (2, 2, 1)))
        self.assertEqual(sheets.back(1, [False]), (0, [], (0, [page(0)])))
        self.assertEqual(sheets.moved(), (3, 2, 2))
        self.assertEqual(sheets.told_slots(), [([0, 0], [page(0)], None), ([1, 0], [], 0), None])
        # A frame that was emptied so has no twin: the fresh sheet is written nowhere else.
        self.assertEqual(sheets.fresh([2, 0], page(2), [True]), (0, [0], (1, [page(1)])))
        self.assertEqual(sheets.told_frames(), [([2, 0], [page(2)], None)])
        self.assertEqual(sheets.told_slots(), [([0, 0], [page(0)], None), ([1, 0], [page(1)], None), None])

    def test_put_out_into_the_first_empty_slot_ahead_of_twins(self):
        sheets = self.filled(2, 3, 4)
        sheets.back(0, [False, False])
        self.assertEqual(sheets.told_slots(), [([0, 0], [], 0), ([1, 0], [page(1)], None), ([2, 0], [page(2)], None)])
        sheets.let_go(slot(1), page(1))
        self.assertEqual(sheets.fresh([5, 0], page(5), [True, False]), (1, [], (1, [page(3)])))
        self.assertEqual(sheets.told_frames()[0], ([0, 0], [page(0)], 0))

    def test_put_out_into_the_twin_of_the_first_frame_that_has_one(self):
        sheets = self.filled(3, 3, 6)
        for number in (2, 1):
            sheets.let_go(frame(number), page(number + 3))
            sheets.back(number, [])
        self.assertEqual([row[2] for row in sheets.told_frames()], [None, 1, 2])
        self.assertEqual(sheets.fresh([7, 0], page(7), [False, True, True]), (0, [], (1, [page(3)])))
        self.assertEqual([row[2] for row in sheets.told_frames()], [None, None, 2])
        self.assertEqual(sheets.told_slots(), [
            ([0, 0], [page(0)], None), ([3, 0], [page(3)], None), ([2, 0], [], 2),
        ])

    def test_put_out_into_the_slot_from_which_it_comes(self):
        sheets = self.filled(2, 1, 3)
        self.assertEqual(sheets.back(0, [False, True]), (0, [1], (0, [page(2)])))
        self.assertEqual(sheets.told_frames(), [([0, 0], [page(0)], None), ([1, 0], [page(1)], None)])
        self.assertEqual(sheets.told_slots(), [([2, 0], [page(2)], None)])
        self.assertEqual((sheets.moved(), sheets.hand_at()), ((2, 2, 1), 1))

    def test_a_slot_empty_behind_the_one_it_comes_from(self):
        sheets = self.filled(1, 2, 2)
        self.assertEqual(sheets.back(0, [False]), (0, [], (1, [page(1)])))
        self.assertEqual(sheets.told_slots(), [([0, 0], [], 0), ([1, 0], [page(1)], None)])

    def test_twins_ahead_of_the_slot_it_comes_from(self):
        sheets = self.filled(2, 2, 4)
        sheets.let_go(frame(1), page(3))
        sheets.back(1, [])
        self.assertEqual(sheets.told_frames(), [([2, 0], [page(2)], None), ([1, 0], [page(1)], 1)])
        self.assertEqual(sheets.back(0, [False, False]), (0, [], (1, [page(2)])))
        self.assertEqual(sheets.told_frames(), [([0, 0], [page(0)], 0), ([1, 0], [page(1)], None)])
        self.assertEqual(sheets.told_slots(), [([0, 0], [], 0), ([2, 0], [page(2)], None)])


class HoldTest(SheetsCase):
    def test_holders_are_told_sorted(self):
        sheets = self.filled(1, 1, 1)
        for holder in (page(3, 2), ("bank", 9, 9), page(12, 0), page(2, 10), ("bank", 0, 11)):
            self.assertIsNone(sheets.hold(frame(0), holder))
        holders = [("bank", 0, 11), ("bank", 9, 9), page(0), page(12, 0), page(3, 2), page(2, 10)]
        self.assertEqual(sheets.holders_of(frame(0)), holders)
        self.assertEqual(sheets.told_frames(), [([0, 0], holders, None)])
        sheets.fresh([1, 1], page(50), [True])
        self.assertEqual(sheets.told_slots(), [([0, 0], holders, None)])

    def test_letting_go_till_nobody_holds_it(self):
        sheets = self.filled(2, 1, 3)
        sheets.hold(slot(0), page(9))
        self.assertIsNone(sheets.let_go(slot(0), page(0)))
        self.assertEqual((sheets.holders_of(slot(0)), sheets.live_sheets()), ([page(9)], 3))
        sheets.let_go(slot(0), page(9))
        self.assertEqual((sheets.told_slots(), sheets.live_sheets()), ([None], 2))
        self.assertEqual((sheets.holders_of(slot(0)), sheets.sheet_at(slot(0))), ([], None))
        sheets.let_go(frame(0), page(2))
        self.assertEqual((sheets.told_frames()[0], sheets.live_sheets()), (None, 1))

    def test_the_twin_goes_with_the_sheet(self):
        sheets = self.filled(1, 2, 2)
        sheets.back(0, [False])
        self.assertEqual(sheets.told_slots(), [([0, 0], [], 0), ([1, 0], [page(1)], None)])
        sheets.hold(frame(0), page(5))
        sheets.let_go(frame(0), page(0))
        self.assertEqual(sheets.told_slots()[0], ([0, 0], [], 0))
        sheets.let_go(frame(0), page(5))
        self.assertEqual((sheets.told_frames(), sheets.told_slots()), ([None], [None, ([1, 0], [page(1)], None)]))
        self.assertEqual(sheets.fresh([4, 4], page(4), []), (0, [], None))
        self.assertEqual(sheets.told_frames(), [([4, 4], [page(4)], None)])

    def test_boxes(self):
        sheets = self.filled(2, 1, 2)
        self.assertIsNone(sheets.set_box(1, 1, -GREAT))
        self.assertEqual([sheets.box_of(1, box) for box in (0, 1)], [1, -GREAT])
        self.assertEqual([sheets.box_of(0, box) for box in (0, 1)], [0, 0])
        self.assertEqual((sheets.sheet_at(frame(1)), sheets.sheet_at(slot(0))), ([1, -GREAT], None))

    def test_writing_empties_the_twin_whatever_is_written(self):
        for value in (0, 5):
            sheets = self.filled(1, 3, 2)
            sheets.back(0, [False])
            sheets.box_of(0, 0)
            self.assertEqual(sheets.told_frames()[0][2], 0)
            sheets.set_box(0, 0, value)
            self.assertEqual((sheets.told_frames()[0][2], sheets.told_slots()[0]), (None, None))
            # The sheet is put out as one without a twin, and with what was written.
            self.assertEqual(sheets.back(1, [False]), (0, [], (0, [page(0)])))
            self.assertEqual((sheets.moved(), sheets.told_slots()[0]), ((3, 3, 2), ([value, 0], [page(0)], None)))

    def test_sizes(self):
        for size in (1, 2, 4, 8, 16):
            sheets = Sheets(1, 1, size)
            sheets.fresh(list(range(size)), page(0), [False])
            sheets.fresh([7] * size, page(1), [False])
            self.assertEqual(sheets.sheet_at(slot(0)), list(range(size)))
            self.assertEqual(sheets.box_of(0, size - 1), 7)


class FoldTest(SheetsCase):
    def laid(self, frames, slots, rows):
        sheets = Sheets(frames, slots, 1)
        for number, value in enumerate(rows):
            sheets.fresh([value], page(number), [False] * frames)
        return sheets

    def test_over_frames_and_then_over_slots(self):
        # Frames: 5, 6, 7; slots: 1, 5, 6.
        sheets = self.laid(3, 4, [1, 5, 6, 5, 6, 7])
        self.assertEqual(sheets.fold(), [(slot(1), frame(0)), (slot(2), frame(1))])
        self.assertEqual(sheets.told_frames(), [
            ([5], [page(1), page(3)], None), ([6], [page(2), page(4)], None), ([7], [page(5)], None),
        ])
        self.assertEqual(sheets.told_slots(), [([1], [page(0)], None), None, None, None])
        self.assertEqual((sheets.live_sheets(), sheets.moved(), sheets.hand_at()), (4, (3, 3, 0), 0))

    def test_holders_hold_the_first_one(self):
        sheets = self.laid(2, 3, [4, 4, 4, 4, 9])
        sheets.hold(slot(1), page(0, 9))
        sheets.let_go(frame(0), page(4))
        self.assertEqual(sheets.fold(), [(slot(0), frame(1)), (slot(1), frame(1)), (slot(2), frame(1))])
        self.assertEqual(sheets.holders_of(frame(1)), [page(0), page(1), page(2), page(3), page(0, 9)])
        self.assertEqual(sheets.told_slots(), [None] * 3)

    def test_among_slots(self):
        sheets = self.laid(1, 4, [3, 3, 2, 3, 8])
        self.assertEqual(sheets.fold(), [(slot(1), slot(0)), (slot(3), slot(0))])
        self.assertEqual(sheets.told_slots(), [
            ([3], [page(0), page(1), page(3)], None), None, ([2], [page(2)], None), None,
        ])

    def test_sheets_of_banks_are_left_alone(self):
        # Frames: 4, 4, 4; slots: 0, 4. The first frame's sheet and the second slot's are banks'.
        sheets = self.laid(3, 3, [0, 4, 4, 4, 4])
        self.assertEqual([row[0] for row in sheets.told_frames()], [[4], [4], [4]])
        sheets.hold(frame(0), ("bank", 0, 0))
        sheets.hold(slot(1), ("bank", 0, 1))
        before = [sheets.holders_of(frame(0)), sheets.holders_of(slot(1))]
        self.assertEqual(sheets.fold(), [(frame(2), frame(1))])
        self.assertEqual([sheets.holders_of(frame(0)), sheets.holders_of(slot(1))], before)
        self.assertEqual((sheets.sheet_at(frame(0)), sheets.sheet_at(slot(1)), sheets.live_sheets()), ([4], [4], 4))

    def test_two_sheets_of_banks(self):
        sheets = Sheets(2, 0, 1)
        sheets.fresh([4], ("bank", 0, 0), [])
        sheets.fresh([4], ("bank", 0, 1), [])
        self.assertEqual((sheets.fold(), sheets.live_sheets()), ([], 2))

    def test_twins_of_what_went_and_of_what_stays(self):
        sheets = self.laid(2, 4, [5, 5, 6, 6])
        sheets.back(0, [False, False])
        sheets.back(1, [False, False])
        self.assertEqual([row[2] for row in sheets.told_frames()], [0, 1])
        self.assertEqual(sheets.fold(), [(frame(1), frame(0)), (slot(3), slot(2))])
        self.assertEqual(sheets.told_frames(), [([5], [page(0), page(1)], 0), None])
        self.assertEqual(sheets.told_slots(), [([5], [], 0), None, ([6], [page(2), page(3)], None), None])

    def test_a_twin_is_no_sheet(self):
        sheets = self.laid(1, 2, [5, 6])
        sheets.back(0, [False])
        self.assertEqual(sheets.fold(), [])
        self.assertEqual(sheets.told_slots(), [([5], [], 0), ([6], [page(1)], None)])

    def test_nothing_alike(self):
        sheets = self.laid(2, 2, [5, 6, 7, -5])
        before = self.told(sheets)
        self.assertEqual(sheets.fold(), [])
        self.assertEqual(self.told(sheets), before)


class WholeTest(SheetsCase):
    def test_many_deeds_as_the_plain_sheets(self):
        for seed in range(40):
            chance = random.Random(seed)
            frames, slots = chance.choice((1, 2, 3, 5)), chance.choice((0, 1, 2, 4, 7))
            sheets, plain = Sheets(frames, slots, 2), PlainSheets(frames, slots)
            for number in range(250):
                self.do_one(chance, sheets, plain, number)
                self.assertEqual(sheets.told_frames(), plain.told_frames())
                self.assertEqual(sheets.told_slots(), plain.told_slots())
                self.assertEqual((sheets.hand_at(), sheets.moved()), (plain.hand, tuple(plain.counts)))
                self.assertEqual(sheets.live_sheets(), len(plain.live))

    def do_one(self, chance, sheets, plain, number):
        marks = [chance.random() < 0.5 for some in range(plain.frames)]
        holder = (chance.choice(("task", "task", "task", "bank")), chance.randrange(3), number)
        spots = [sheet["spot"] for sheet in plain.live]
        in_slots = [spot[1] for spot in spots if spot[0] == "slot"]
        in_frames = [spot[1] for spot in spots if spot[0] == "frame"]
        kind = chance.choice(("fresh", "fresh", "back", "back", "back", "hold", "let_go", "let_go", "set", "fold"))
        if kind == "fresh":
            values = [chance.randrange(2), chance.randrange(2)]
            try:
                answer = plain.fresh(values, holder, marks)
            except NoRoom:
                with self.assertRaises(NoRoom):
                    sheets.fresh(values, holder, marks)
            else:
                self.assertEqual(sheets.fresh(values, holder, marks), answer)
        elif kind == "back" and in_slots:
            place = chance.choice(in_slots)
            self.assertEqual(sheets.back(place, marks), plain.back(place, marks))
        elif kind == "hold" and spots:
            spot = chance.choice(spots)
            sheets.hold(spot, holder)
            plain.at(spot)["holders"].add(holder)
        elif kind == "let_go" and spots:
            spot = chance.choice(spots)
            holder = chance.choice(sorted(plain.at(spot)["holders"]))
            sheets.let_go(spot, holder)
            plain.let_go(spot, holder)
        elif kind == "set" and in_frames:
            place, box, value = chance.choice(in_frames), chance.randrange(2), chance.randrange(2)
            sheets.set_box(place, box, value)
            plain.at(frame(place))["values"][box] = value
            plain.at(frame(place))["twin"] = None
        elif kind == "fold" and chance.random() < 0.5:
            self.assertEqual(sheets.fold(), plain.fold())

    def test_lists_handed_in_and_then_changed(self):
        sheets = Sheets(2, 2, 2)
        values, marks = [1, 2], [True, True]
        sheets.fresh(values, page(0), marks)
        values[0] = 9
        values.append(3)
        self.assertEqual(sheets.sheet_at(frame(0)), [1, 2])
        sheets.set_box(0, 1, 7)
        self.assertEqual(values, [9, 2, 3])
        sheets.fresh([3, 4], page(1), marks)
        sheets.fresh([5, 6], page(2), marks)
        sheets.back(0, marks)
        self.assertEqual(marks, [True, True])

    def test_lists_told_and_then_changed(self):
        sheets = self.filled(2, 3, 3)
        sheets.back(0, [False, False])
        before = self.told(sheets)
        frames, slots = sheets.told_frames(), sheets.told_slots()
        for row in frames + slots:
            if row is not None:
                row[0][0] = 77
                row[1].append("nobody")
        frames.clear()
        slots.clear()
        sheets.sheet_at(frame(0)).append(5)
        sheets.holders_of(frame(0)).clear()
        self.assertEqual(self.told(sheets), before)
        kept = (sheets.told_frames(), sheets.told_slots())
        answer = sheets.back(1, [True, True])
        self.assertEqual(answer, (0, [0, 1], (2, [page(2)])))
        sheets.hold(slot(2), page(9))
        sheets.set_box(0, 0, 5)
        self.assertEqual((kept, answer), (before[:2], (0, [0, 1], (2, [page(2)]))))
        answer[1].clear()
        answer[2][1].clear()
        self.assertEqual(sheets.holders_of(slot(2)), [page(2), page(9)])

    def test_a_fold_s_answer_is_the_asker_s_own(self):
        sheets = Sheets(2, 0, 1)
        sheets.fresh([1], page(0), [])
        sheets.fresh([1], page(1), [])
        sheets.fold().clear()
        self.assertEqual(sheets.fold(), [])
        self.assertEqual(sheets.holders_of(frame(0)), [page(0), page(1)])

    def test_two_beside_one_another(self):
        one, other = Sheets(1, 1, 1), Sheets(1, 1, 1)
        one.fresh([1], page(0), [False])
        self.assertEqual(self.told(other), ([None], [None], 0, (0, 0, 0), 0))
        other.fresh([2], page(0), [False])
        other.set_box(0, 0, 3)
        self.assertEqual((one.box_of(0, 0), other.box_of(0, 0)), (1, 3))

    def test_arguments_bear_their_names(self):
        sheets = Sheets(size=1, slots=1, frames=1)
        self.assertEqual(sheets.fresh(marks=[True], holder=page(0), sheet=[5]), (0, [], None))
        sheets.fresh([6], page(1), [True])
        self.assertEqual(sheets.back(marks=[False], slot=0), (0, [], (0, [page(1)])))
        sheets.hold(holder=page(2), spot=frame(0))
        sheets.let_go(holder=page(0), spot=frame(0))
        sheets.set_box(value=8, box=0, frame=0)
        self.assertEqual((sheets.holders_of(spot=frame(0)), sheets.sheet_at(spot=frame(0))), ([page(2)], [8]))
        self.assertEqual(sheets.box_of(box=0, frame=0), 8)


if __name__ == "__main__":
    unittest.main()
