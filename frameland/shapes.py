"""Shapes of rooms: how many pages and boxes there are, and how addresses, steps and stretches tell them."""

from frameland.errors import NoShape, OutOfRoom
from frameland.wholes import is_within

MOST_IN_STRETCH = 64


def power_of_two(exponent):
    power = 1
    for doubling in range(exponent):
        power = power * 2
    return power


def check_measures(levels, fan, grain):
    if not is_within(levels, 2, 3):
        raise NoShape("levels must be 2 or 3")
    if not is_within(fan, 1, 8):
        raise NoShape("fan must be from 1 to 8")
    if not is_within(grain, 0, 4):
        raise NoShape("grain must be from 0 to 4")


class Shape:
    def __init__(self, levels, fan, grain):
        check_measures(levels, fan, grain)
        self.levels = levels
        self.fan = fan
        self.grain = grain
        # Every page and address is checked against these, so they are reckoned just once.
        self.ways = power_of_two(fan)
        self.boxes = power_of_two(grain)
        self.pages = power_of_two(levels * fan)

    def sheet_size(self):
        return self.boxes

    def page_count(self):
        return self.pages

    def has_page(self, page):
        return is_within(page, 0, self.pages - 1)

    def check_page(self, page):
        if not self.has_page(page):
            raise OutOfRoom("the room has no such page")

    def has_address(self, address):
        return is_within(address, 0, self.pages * self.boxes - 1)

    def parted(self, address):
        if not self.has_address(address):
            raise OutOfRoom("the room has no such address")
        return (address // self.boxes, address % self.boxes)

    def address(self, page, box):
        self.check_page(page)
        if not is_within(box, 0, self.boxes - 1):
            raise OutOfRoom("a page has no such box")
        return page * self.boxes + box

    def steps(self, page):
        self.check_page(page)
        figures = []
        rest = page
        for level in range(self.levels):
            figures.append(rest % self.ways)
            rest = rest // self.ways
        # The figures come from the right, but are told from the left.
        figures.reverse()
        return figures

    def page_of(self, steps):
        if len(steps) != self.levels:
            raise OutOfRoom("a page has as many steps as the room has levels")
        page = 0
        for step in steps:
            if not is_within(step, 0, self.ways - 1):
                raise OutOfRoom("a table has no such step")
            page = page * self.ways + step
        return page

    def fits(self, first, many):
        return self.has_page(first) and is_within(many, 1, MOST_IN_STRETCH) and self.has_page(first + many - 1)
