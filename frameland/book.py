"""The book: a few rows that remember the entries of tasks' pages."""

from frameland.rings import swept


class Book:
    def __init__(self, many):
        # Each place is None or a tuple (task, page, entry, used), as it is told.
        self.rows = [None] * many
        # The place of each row, by its task and page.
        self.found = {}
        self.hand = 0

    def look(self, task, page):
        place = self.found.get((task, page))
        return None if place is None else self.rows[place][2]

    def use(self, task, page):
        place = self.found.get((task, page))
        if place is not None:
            self.rows[place] = (task, page, self.rows[place][2], True)

    def keep(self, task, page, entry):
        if len(self.rows) == 0:
            return
        place = self.found.get((task, page))
        if place is not None:
            self.rows[place] = (task, page, entry, self.rows[place][3])
            return
        place = self.place_for_new()
        self.rows[place] = (task, page, entry, False)
        self.found[(task, page)] = place

    def strike(self, task, page):
        if (task, page) in self.found:
            place = self.found.pop((task, page))
            self.rows[place] = None

    def strike_task(self, task):
        for key in list(self.found):
            if key[0] == task:
                self.strike(key[0], key[1])

    def told(self):
        return list(self.rows)

    def place_for_new(self):
        if None in self.rows:
            return self.rows.index(None)
        choice = swept([row[3] for row in self.rows], self.hand)
        for place in choice[1]:
            row = self.rows[place]
            self.rows[place] = (row[0], row[1], row[2], False)
        gone = self.rows[choice[0]]
        self.strike(gone[0], gone[1])
        self.hand = (choice[0] + 1) % len(self.rows)
        return choice[0]
