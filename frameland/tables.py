"""Tables: the entries of a room's pages, kept on levels that come and go with them."""

from frameland.levels import count_of, depth_at, drop_at, look_at, put_at, told_of


class Table:
    def __init__(self, shape):
        self.shape = shape
        self.top = {}

    def put(self, page, entry):
        put_at(self.top, self.shape.steps(page), entry)

    def look(self, page):
        return look_at(self.top, self.shape.steps(page))

    def drop(self, page):
        drop_at(self.top, self.shape.steps(page))

    def told(self):
        return [(self.shape.page_of(steps), entry) for steps, entry in told_of(self.top, self.shape.levels, [])]

    def table_count(self):
        return count_of(self.top, self.shape.levels)

    def depth(self, page):
        return depth_at(self.top, self.shape.steps(page))
