"""Sheets: those that live, in frames and slots, with their holders, and the hand that puts them out of frames."""

from frameland.errors import NoRoom
from frameland.rings import swept
from frameland.spots import Sheet, Spots


class Sheets:
    def __init__(self, frames, slots, size):
        self.size = size
        self.frames = Spots(frames)
        self.slots = Spots(slots)
        self.hand = 0
        # Since the beginning: sheets put out, those of them not put into their own twin, and sheets brought back.
        self.gone_out = 0
        self.gone_astray = 0
        self.come_back = 0

    def fresh(self, sheet, holder, marks):
        if self.is_full():
            raise NoRoom("as many sheets live as there are frames and slots")
        way = self.frame_for(None, marks)
        self.frames.lying[way[0]] = Sheet(sheet, holder)
        return way

    def back(self, slot, marks):
        coming = self.slots.lying[slot]
        way = self.frame_for(slot, marks)
        self.frames.lying[way[0]] = coming
        if way[2] is None or way[2][0] != slot:
            self.slots.lying[slot] = None
            self.slots.twins[slot] = way[0]
            self.frames.twins[way[0]] = slot
        self.come_back = self.come_back + 1
        return way

    def hold(self, spot, holder):
        sheet = self.lying_at(spot)
        sheet.holders[holder] = True

    def let_go(self, spot, holder):
        sheet = self.lying_at(spot)
        sheet.holders.pop(holder)
        if len(sheet.holders) == 0:
            self.make_empty(spot)

    def holders_of(self, spot):
        sheet = self.lying_at(spot)
        return [] if sheet is None else sheet.told_holders()

    def holder_count(self, spot):
        sheet = self.lying_at(spot)
        return 0 if sheet is None else len(sheet.holders)

    def sheet_at(self, spot):
        sheet = self.lying_at(spot)
        return None if sheet is None else list(sheet.boxes)

    def box_of(self, frame, box):
        return self.frames.lying[frame].boxes[box]

    def set_box(self, frame, box, value):
        self.frames.lying[frame].boxes[box] = value
        self.lose_twin(frame)

    def fold(self):
        first_by_boxes = {}
        gone = []
        for spot in self.all_spots():
            sheet = self.lying_at(spot)
            if sheet is not None and not sheet.is_banked():
                first = first_by_boxes.setdefault(tuple(sheet.boxes), spot)
                if first != spot:
                    self.hand_over(spot, first)
                    gone.append((spot, first))
        return gone

    def live_sheets(self):
        return self.frames.live_count() + self.slots.live_count()

    def is_full(self):
        return self.live_sheets() >= len(self.frames.lying) + len(self.slots.lying)

    def hand_at(self):
        return self.hand

    def told_frames(self):
        told = []
        for frame, sheet in enumerate(self.frames.lying):
            if sheet is None:
                told.append(None)
            else:
                told.append((list(sheet.boxes), sheet.told_holders(), self.frames.twins[frame]))
        return told

    def told_slots(self):
        return [self.told_slot(slot) for slot in range(len(self.slots.lying))]

    def moved(self):
        return (self.gone_out, self.gone_astray, self.come_back)

    def lying_at(self, spot):
        spots = self.frames if spot[0] == "frame" else self.slots
        return spots.lying[spot[1]]

    def all_spots(self):
        frames = [("frame", frame) for frame in range(len(self.frames.lying))]
        return frames + [("slot", slot) for slot in range(len(self.slots.lying))]

    # A twin's values are those of its frame's sheet, for it is lost as soon as something is written there.
    def told_slot(self, slot):
        sheet = self.slots.lying[slot]
        frame = self.slots.twins[slot]
        if sheet is not None:
            return (list(sheet.boxes), sheet.told_holders(), None)
        if frame is not None:
            return (self.sheet_at(("frame", frame)), [], frame)
        return None

    def hand_over(self, spot, other):
        for holder in self.holders_of(spot):
            self.hold(other, holder)
        self.make_empty(spot)

    def make_empty(self, spot):
        if spot[0] == "frame":
            self.frames.lying[spot[1]] = None
            self.lose_twin(spot[1])
        else:
            self.slots.lying[spot[1]] = None

    def lose_twin(self, frame):
        slot = self.frames.twins[frame]
        if slot is not None:
            self.frames.twins[frame] = None
            self.slots.twins[slot] = None

    # The answer is that of fresh and back: the frame, the frames passed, and what was put out.
    def frame_for(self, coming_from, marks):
        frame = self.frames.first_empty()
        if frame is not None:
            return (frame, [], None)
        choice = swept(marks, self.hand)
        self.hand = (choice[0] + 1) % len(self.frames.lying)
        return (choice[0], choice[1], self.put_out(choice[0], coming_from))

    def put_out(self, frame, coming_from):
        sheet = self.frames.lying[frame]
        slot = self.slot_for(frame, coming_from)
        self.gone_out = self.gone_out + 1
        if slot != self.frames.twins[frame]:
            self.gone_astray = self.gone_astray + 1
        if self.slots.twins[slot] is not None:
            self.lose_twin(self.slots.twins[slot])
        self.slots.lying[slot] = sheet
        self.frames.lying[frame] = None
        return (slot, sheet.told_holders())

    # A fresh sheet comes from no slot, but while it may live some slot is empty or a twin.
    def slot_for(self, frame, coming_from):
        if self.frames.twins[frame] is not None:
            return self.frames.twins[frame]
        empty = self.slots.first_empty()
        if empty is not None:
            return empty
        twin = self.frames.first_twin()
        return coming_from if twin is None else twin
