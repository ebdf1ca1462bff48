"""The house: which tasks and banks there are, and which pages are mapped; it holds no values."""

from frameland.errors import Busy, NoBank, NoRight, NoTask, NotMapped, OutOfBank, OutOfRoom
from frameland.stretches import Stretches, check_rights, end_of, tie_from
from frameland.wholes import is_within

MOST_IN_BANK = 64


def least_free(numbers):
    number = 0
    while number in numbers:
        number = number + 1
    return number


class House:
    def __init__(self, shape):
        self.shape = shape
        # The stretches of each task, and how many pages each bank has.
        self.tasks = {}
        self.banks = {}

    def new_task(self):
        task = least_free(self.tasks)
        self.tasks[task] = Stretches()
        return task

    def fork(self, task):
        self.check_task(task)
        other = least_free(self.tasks)
        self.tasks[other] = self.tasks[task].copied()
        return other

    def end_task(self, task):
        self.check_task(task)
        self.tasks.pop(task)

    def new_bank(self, many):
        if not is_within(many, 1, MOST_IN_BANK):
            raise OutOfBank("a bank has 1 to 64 pages")
        bank = least_free(self.banks)
        self.banks[bank] = many
        return bank

    def drop_bank(self, bank):
        self.check_bank(bank)
        if any([stretches.is_tied(bank) for stretches in self.tasks.values()]):
            raise Busy("a task has a page tied to the bank")
        self.banks.pop(bank)

    def lay(self, task, first, many, rights, bank=None, start=0):
        self.check_stretch(task, first, many)
        check_rights(rights)
        tie = None
        if bank is not None:
            self.check_part_of_bank(bank, start, many)
            tie = (bank, start)
        self.tasks[task].put(first, many, rights, tie)

    def lift(self, task, first, many):
        self.check_stretch(task, first, many)
        self.tasks[task].cut(first, many)

    def guard(self, task, first, many, rights):
        self.check_stretch(task, first, many)
        self.tasks[task].guard(first, many, rights)

    def asked(self, task, address, want):
        self.check_task(task)
        parts = self.shape.parted(address)
        rights = self.tasks[task].rights_at(parts[0])
        if rights is None:
            raise NotMapped("the page is not mapped")
        if rights & want != want:
            raise NoRight("the page lacks the right")
        return parts

    def task_list(self):
        return sorted(self.tasks)

    def bank_list(self):
        return sorted(self.banks)

    def bank_size(self, bank):
        self.check_bank(bank)
        return self.banks[bank]

    def stretches_of(self, task):
        self.check_task(task)
        return self.tasks[task].told()

    def rights_at(self, task, page):
        self.check_task(task)
        return self.tasks[task].rights_at(page)

    def tie_at(self, task, page):
        self.check_task(task)
        return self.tasks[task].tie_at(page)

    # Each mapped page by itself, as a tuple (page, rights, tie): for those who tell what a task sees.
    def pages_of(self, task):
        mapped = []
        for run in self.stretches_of(task):
            mapped.extend([(page, run[2], tie_from(run, page)) for page in range(run[0], end_of(run))])
        return mapped

    def check_task(self, task):
        if task not in self.tasks:
            raise NoTask("there is no such task")

    def check_bank(self, bank):
        if bank not in self.banks:
            raise NoBank("there is no such bank")

    def check_stretch(self, task, first, many):
        self.check_task(task)
        if not self.shape.fits(first, many):
            raise OutOfRoom("the stretch does not fit the room")

    def check_part_of_bank(self, bank, start, many):
        self.check_bank(bank)
        if not is_within(start, 0, self.banks[bank] - many):
            raise OutOfBank("the bank has no such pages")
