"""The entries of tasks' pages, in tables, and of banks' pages, with a book that remembers some of the former."""

from frameland.book import Book
from frameland.tables import Table


class Entries:
    def __init__(self, shape, places):
        self.shape = shape
        self.tables = {}
        self.banks = {}
        self.book = Book(places)

    def open_task(self, task):
        self.tables[task] = Table(self.shape)

    def close_task(self, task):
        self.tables.pop(task)
        self.book.strike_task(task)

    def open_bank(self, bank, many):
        self.banks[bank] = [None] * many

    def close_bank(self, bank):
        self.banks.pop(bank)

    def look(self, holder):
        if holder[0] == "task":
            return self.tables[holder[1]].look(holder[2])
        return self.banks[holder[1]][holder[2]]

    def put(self, holder, entry):
        # The very entry that is there must not cost the page its row.
        if self.look(holder) == entry:
            return
        if holder[0] == "task":
            self.book.strike(holder[1], holder[2])
            self.tables[holder[1]].put(holder[2], entry)
        else:
            self.banks[holder[1]][holder[2]] = entry

    def take(self, holder):
        if holder[0] == "task":
            self.book.strike(holder[1], holder[2])
            self.tables[holder[1]].drop(holder[2])
        else:
            self.banks[holder[1]][holder[2]] = None

    def remember(self, task, page):
        entry = self.tables[task].look(page)
        if entry is not None:
            self.book.keep(task, page, entry)

    def recall(self, task, page):
        return self.book.look(task, page)

    def use(self, task, page):
        self.book.use(task, page)

    def told_task(self, task):
        return self.tables[task].told()

    def told_bank(self, bank):
        return list(self.banks[bank])

    def table_count(self, task):
        return self.tables[task].table_count()

    def told_book(self):
        return self.book.told()
