"""Plain rooms: the boxes of every page as they are, with neither frames nor slots."""

from frameland.bits import READ, WRITE
from frameland.errors import NoRoom
from frameland.house import House


class Rooms:
    def __init__(self, shape, most):
        self.shape = shape
        self.most = most
        self.house = House(shape)
        # The values of each living sheet, and how many pages have it, by numbers that are never given twice.
        self.sheets = {}
        self.havers = {}
        self.made = 0
        # The numbers of the sheets that private pages have, by tasks, and that bank pages have, by banks.
        self.private = {}
        self.banked = {}

    def new_task(self):
        task = self.house.new_task()
        self.private[task] = {}
        return task

    def fork(self, task):
        other = self.house.fork(task)
        self.private[other] = dict(self.private[task])
        for number in self.private[other].values():
            self.havers[number] = self.havers[number] + 1
        return other

    def end_task(self, task):
        self.house.end_task(task)
        self.let_all_go(self.private.pop(task))

    def new_bank(self, many):
        bank = self.house.new_bank(many)
        self.banked[bank] = {}
        return bank

    def drop_bank(self, bank):
        self.house.drop_bank(bank)
        self.let_all_go(self.banked.pop(bank))

    def lay(self, task, first, many, rights, bank=None, start=0):
        self.house.lay(task, first, many, rights, bank, start)

    def lift(self, task, first, many):
        self.house.lift(task, first, many)
        for page in range(first, first + many):
            self.let_page_go(self.private[task], page)

    def guard(self, task, first, many, rights):
        self.house.guard(task, first, many, rights)

    def read(self, task, address):
        parts = self.house.asked(task, address, READ)
        return self.sheets[self.sheet_to_read(task, parts[0])][parts[1]]

    def write(self, task, address, value):
        parts = self.house.asked(task, address, WRITE)
        self.sheets[self.sheet_to_write(task, parts[0])][parts[1]] = value

    def fold(self):
        before = len(self.sheets)
        first_by_boxes = {}
        for task in sorted(self.private):
            self.fold_pages(self.private[task], first_by_boxes)
        return before - len(self.sheets)

    def task_list(self):
        return self.house.task_list()

    def bank_list(self):
        return self.house.bank_list()

    def stretches_of(self, task):
        return self.house.stretches_of(task)

    def seen_by(self, task):
        return [(page, rights, self.shown(task, page, tie)) for page, rights, tie in self.house.pages_of(task)]

    def live_sheets(self):
        return len(self.sheets)

    def shown(self, task, page, tie):
        pages = self.private[task] if tie is None else self.banked[tie[0]]
        number = pages.get(page if tie is None else tie[1])
        return self.noughts() if number is None else list(self.sheets[number])

    def noughts(self):
        return [0] * self.shape.sheet_size()

    def sheet_to_read(self, task, page):
        tie = self.house.tie_at(task, page)
        if tie is None:
            return self.sheet_there(self.private[task], page)
        return self.sheet_there(self.banked[tie[0]], tie[1])

    def sheet_to_write(self, task, page):
        pages = self.private[task]
        # Tied pages are not among the private ones, so a bank's sheet is never parted.
        if page in pages and self.havers[pages[page]] > 1:
            number = self.new_sheet(self.sheets[pages[page]])
            self.let_page_go(pages, page)
            pages[page] = number
        return self.sheet_to_read(task, page)

    def sheet_there(self, pages, page):
        if page not in pages:
            pages[page] = self.new_sheet(self.noughts())
        return pages[page]

    def fold_pages(self, pages, first_by_boxes):
        for page in sorted(pages):
            number = first_by_boxes.setdefault(tuple(self.sheets[pages[page]]), pages[page])
            if number != pages[page]:
                self.let_page_go(pages, page)
                pages[page] = number
                self.havers[number] = self.havers[number] + 1

    def new_sheet(self, boxes):
        if len(self.sheets) >= self.most:
            raise NoRoom("no sheet more may live")
        number = self.made
        self.made = number + 1
        self.sheets[number] = list(boxes)
        self.havers[number] = 1
        return number

    def let_page_go(self, pages, page):
        if page not in pages:
            return
        number = pages.pop(page)
        self.havers[number] = self.havers[number] - 1
        if self.havers[number] == 0:
            self.havers.pop(number)
            self.sheets.pop(number)

    def let_all_go(self, pages):
        for page in list(pages):
            self.let_page_go(pages, page)
