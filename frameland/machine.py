"""The machine: the deeds of plain rooms, done by a house and a keeper with few frames and slots."""

from frameland.bits import READ, WRITE
from frameland.errors import NoShape, NotMapped
from frameland.house import House
from frameland.keeper import Keeper
from frameland.wholes import is_within

MOST_OF_EACH = 64


def check_sizes(frames, slots, places):
    if not is_within(frames, 1, MOST_OF_EACH):
        raise NoShape("frames must be from 1 to 64")
    if not is_within(slots, 0, MOST_OF_EACH):
        raise NoShape("slots must be from 0 to 64")
    if not is_within(places, 0, MOST_OF_EACH):
        raise NoShape("places must be from 0 to 64")


class Machine:
    def __init__(self, shape, frames, slots, places=0):
        check_sizes(frames, slots, places)
        self.shape = shape
        self.house = House(shape)
        self.keeper = Keeper(shape, frames, slots, places)

    def new_task(self):
        task = self.house.new_task()
        self.keeper.open_task(task)
        return task

    def fork(self, task):
        other = self.house.fork(task)
        self.keeper.open_task(other)
        for page, entry in self.keeper.told_task(task):
            self.keeper.share(task, page, other)
        return other

    def end_task(self, task):
        self.house.end_task(task)
        self.keeper.close_task(task)

    def new_bank(self, many):
        bank = self.house.new_bank(many)
        self.keeper.open_bank(bank, many)
        return bank

    def drop_bank(self, bank):
        self.house.drop_bank(bank)
        self.keeper.close_bank(bank)

    def lay(self, task, first, many, rights, bank=None, start=0):
        self.house.lay(task, first, many, rights, bank, start)

    def lift(self, task, first, many):
        self.house.lift(task, first, many)
        for page in range(first, first + many):
            self.keeper.release(task, page)

    def guard(self, task, first, many, rights):
        self.house.guard(task, first, many, rights)
        for page in range(first, first + many):
            self.keeper.guard(task, page, rights)

    def read(self, task, address):
        reached = self.reach(task, address, READ)
        return self.keeper.box_of(reached[0], reached[1])

    def write(self, task, address, value):
        reached = self.reach(task, address, WRITE)
        self.keeper.set_box(reached[0], reached[1], value)

    def fold(self):
        return self.keeper.fold()

    def task_list(self):
        return self.house.task_list()

    def bank_list(self):
        return self.house.bank_list()

    def stretches_of(self, task):
        return self.house.stretches_of(task)

    def seen_by(self, task):
        return [(page, rights, self.shown(task, page, tie)) for page, rights, tie in self.house.pages_of(task)]

    def live_sheets(self):
        return self.keeper.live_sheets()

    def told_task(self, task):
        self.house.check_task(task)
        return self.keeper.told_task(task)

    def table_count(self, task):
        self.house.check_task(task)
        return self.keeper.table_count(task)

    def told_bank(self, bank):
        self.house.check_bank(bank)
        return self.keeper.told_bank(bank)

    def told_book(self):
        return self.keeper.told_book()

    def told_frames(self):
        return self.keeper.told_frames()

    def told_slots(self):
        return self.keeper.told_slots()

    def hand_at(self):
        return self.keeper.hand_at()

    def counts(self):
        return self.keeper.counts()

    # The values of one page alone, for those who ask for no more.
    def page_seen(self, task, page):
        self.house.check_task(task)
        self.shape.check_page(page)
        if self.house.rights_at(task, page) is None:
            raise NotMapped("the page is not mapped")
        return self.shown(task, page, self.house.tie_at(task, page))

    def shown(self, task, page, tie):
        holder = ("task", task, page) if tie is None else ("bank", tie[0], tie[1])
        boxes = self.keeper.values_of(holder)
        return [0] * self.shape.sheet_size() if boxes is None else boxes

    # The frame and the box. What the book serves is not asked for: its rows are of open tasks and mapped pages alone.
    def reach(self, task, address, want):
        if self.shape.has_address(address):
            parts = self.shape.parted(address)
            frame = self.keeper.served(task, parts[0], want)
            if frame is not None:
                return (frame, parts[1])
        return self.reach_by_touch(task, address, want)

    def reach_by_touch(self, task, address, want):
        parts = self.house.asked(task, address, want)
        rights = self.house.rights_at(task, parts[0])
        tie = self.house.tie_at(task, parts[0])
        return (self.keeper.touch(task, parts[0], rights, tie, want), parts[1])
