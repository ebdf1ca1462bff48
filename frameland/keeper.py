"""The keeper: it touches pages, so that their sheets lie in frames, and keeps every entry as its sheet lies."""

from frameland.bits import CHANGED, KEPT, READ, SEEN, WRITE
from frameland.bits import bits_of, entry_of, has_bits, place_of, with_bits, without_bits
from frameland.entries import Entries
from frameland.errors import NoRoom
from frameland.sheets import Sheets


# Of a sheet in a frame every entry is kept, of one in a slot none is: so an entry tells by itself what it names.
def spot_of(entry):
    if has_bits(entry, KEPT):
        return ("frame", place_of(entry))
    return ("slot", place_of(entry))


class Keeper:
    def __init__(self, shape, frames, slots, places):
        self.shape = shape
        self.frame_count = frames
        self.sheets = Sheets(frames, slots, shape.sheet_size())
        self.entries = Entries(shape, places)
        # The rights and the tie, as a tuple, of each task's page that has an entry, by its holder.
        self.known = {}
        self.from_book = 0
        self.touches = 0
        self.blank_made = 0
        self.copies_made = 0
        self.folded = 0

    def open_task(self, task):
        self.entries.open_task(task)

    def close_task(self, task):
        for page, entry in self.entries.told_task(task):
            self.release(task, page)
        self.entries.close_task(task)

    def open_bank(self, bank, many):
        self.entries.open_bank(bank, many)

    def close_bank(self, bank):
        for page, entry in enumerate(self.entries.told_bank(bank)):
            if entry is not None:
                self.part_from_sheet(("bank", bank, page))
        self.entries.close_bank(bank)

    def touch(self, task, page, rights, tie, want):
        holder = ("task", task, page)
        if self.needs_fresh(holder, tie, want) and self.sheets.is_full():
            raise NoRoom("as many sheets live as there are frames and slots")
        self.known[holder] = (rights, tie)
        if tie is None:
            frame = self.frame_of_private(holder, want)
        else:
            frame = self.frame_of_tied(holder, ("bank", tie[0], tie[1]))
        self.set_touched(holder, ("frame", frame), want)
        self.entries.remember(task, page)
        self.touches = self.touches + 1
        return frame

    def served(self, task, page, want):
        entry = self.entries.recall(task, page)
        needed = READ if want == READ else WRITE + CHANGED
        if entry is None or not has_bits(entry, needed):
            return None
        self.entries.use(task, page)
        self.from_book = self.from_book + 1
        return place_of(entry)

    def release(self, task, page):
        holder = ("task", task, page)
        if self.entries.look(holder) is not None:
            self.part_from_sheet(holder)
            self.known.pop(holder)

    def guard(self, task, page, rights):
        holder = ("task", task, page)
        entry = self.entries.look(holder)
        if entry is not None:
            self.known[holder] = (rights, self.known[holder][1])
            self.settle(holder, spot_of(entry))

    def share(self, task, page, other):
        holder = ("task", task, page)
        entry = self.entries.look(holder)
        if entry is None or self.known[holder][1] is not None:
            return
        sharer = ("task", other, page)
        self.known[sharer] = self.known[holder]
        self.sheets.hold(spot_of(entry), sharer)
        # Where others shared it already, nothing becomes new for them.
        self.settle(sharer, spot_of(entry))
        self.settle(holder, spot_of(entry))

    def fold(self):
        gone = self.sheets.fold()
        stays = {}
        for pair in gone:
            stays[pair[1]] = True
        for spot in list(stays):
            self.settle_all(spot)
        self.folded = self.folded + len(gone)
        return len(gone)

    def box_of(self, frame, box):
        return self.sheets.box_of(frame, box)

    def set_box(self, frame, box, value):
        self.sheets.set_box(frame, box, value)

    def values_of(self, holder):
        entry = self.entries.look(holder)
        return None if entry is None else self.sheets.sheet_at(spot_of(entry))

    def live_sheets(self):
        return self.sheets.live_sheets()

    def told_task(self, task):
        return self.entries.told_task(task)

    def told_bank(self, bank):
        return self.entries.told_bank(bank)

    def table_count(self, task):
        return self.entries.table_count(task)

    def told_book(self):
        return self.entries.told_book()

    def told_frames(self):
        return self.sheets.told_frames()

    def told_slots(self):
        return self.sheets.told_slots()

    def hand_at(self):
        return self.sheets.hand_at()

    def counts(self):
        made = (self.from_book, self.touches, self.blank_made, self.copies_made)
        return made + self.sheets.moved() + (self.folded, self.live_sheets())

    def needs_fresh(self, holder, tie, want):
        entry = self.entries.look(holder if tie is None else ("bank", tie[0], tie[1]))
        return entry is None or (tie is None and want == WRITE and self.is_shared(entry))

    def is_shared(self, entry):
        return self.sheets.holder_count(spot_of(entry)) > 1

    def frame_of_private(self, holder, want):
        entry = self.entries.look(holder)
        if entry is not None and want == WRITE and self.is_shared(entry):
            boxes = self.sheets.sheet_at(spot_of(entry))
            self.part_from_sheet(holder)
            self.copies_made = self.copies_made + 1
            return self.bring_fresh(boxes, holder)
        return self.frame_of_held(holder)

    def frame_of_tied(self, holder, owner):
        frame = self.frame_of_held(owner)
        if self.entries.look(holder) is None:
            self.sheets.hold(("frame", frame), holder)
        return frame

    def frame_of_held(self, holder):
        entry = self.entries.look(holder)
        if entry is None:
            self.blank_made = self.blank_made + 1
            return self.bring_fresh([0] * self.shape.sheet_size(), holder)
        if has_bits(entry, KEPT):
            return place_of(entry)
        way = self.sheets.back(place_of(entry), self.marks_now())
        self.follow_hand(way)
        self.settle_all(("frame", way[0]))
        return way[0]

    def bring_fresh(self, boxes, holder):
        way = self.sheets.fresh(boxes, holder, self.marks_now())
        self.follow_hand(way)
        self.settle(holder, ("frame", way[0]))
        return way[0]

    def marks_now(self):
        return [self.is_seen(frame) for frame in range(self.frame_count)]

    def is_seen(self, frame):
        for holder in self.sheets.holders_of(("frame", frame)):
            if has_bits(self.entries.look(holder), SEEN):
                return True
        return False

    # What fresh and back answer: the frames passed are seen no more, and the sheet put out is named by its slot.
    def follow_hand(self, way):
        for frame in way[1]:
            for holder in self.sheets.holders_of(("frame", frame)):
                self.unsee(holder)
        if way[2] is not None:
            for holder in way[2][1]:
                self.follow_out(holder, way[2][0])

    # The sheet that just came into a frame that was passed may have no entry yet.
    def unsee(self, holder):
        entry = self.entries.look(holder)
        if entry is not None:
            self.entries.put(holder, without_bits(entry, SEEN))

    def follow_out(self, holder, slot):
        if holder[0] == "task" and self.known[holder][1] is not None:
            self.sheets.let_go(("slot", slot), holder)
            self.entries.take(holder)
            self.known.pop(holder)
        else:
            self.entries.put(holder, entry_of(slot, 0))

    def part_from_sheet(self, holder):
        spot = spot_of(self.entries.look(holder))
        self.sheets.let_go(spot, holder)
        self.entries.take(holder)
        # Only for one who holds the sheet alone from now on something may become new.
        if self.sheets.holder_count(spot) == 1:
            self.settle_all(spot)

    def set_touched(self, holder, spot, want):
        self.settle(holder, spot)
        entry = with_bits(self.entries.look(holder), SEEN)
        if want == WRITE:
            entry = with_bits(entry, CHANGED)
        self.entries.put(holder, entry)

    def settle_all(self, spot):
        for holder in self.sheets.holders_of(spot):
            self.settle(holder, spot)

    def settle(self, holder, spot):
        entry = self.entries.look(holder)
        stays = 0
        if entry is not None and spot_of(entry) == spot:
            stays = bits_of(entry) & (SEEN + CHANGED)
        self.entries.put(holder, entry_of(spot[1], self.due_bits(holder, spot) + stays))

    def due_bits(self, holder, spot):
        if spot[0] == "slot":
            return 0
        if holder[0] == "bank":
            return KEPT
        # The numbers of rights are those of the bits read and write.
        rights = self.known[holder][0]
        if self.known[holder][1] is None and self.sheets.holder_count(spot) > 1:
            rights = without_bits(rights, WRITE)
        return KEPT + rights
