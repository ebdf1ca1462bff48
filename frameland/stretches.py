"""Stretches: which pages are mapped, with their rights and ties, kept as runs so that nothing goes page by page."""

from frameland.errors import BadRights, NotMapped, Taken
from frameland.wholes import is_within

MOST_RIGHTS = 3


def check_rights(rights):
    if not is_within(rights, 0, MOST_RIGHTS):
        raise BadRights("rights are a number from 0 to 3")


# A run is a tuple (first, many, rights, tie) as it is told, so its end is the page behind its last one.
def end_of(run):
    return run[0] + run[1]


def tie_from(run, page):
    tie = run[3]
    if tie is None:
        return None
    return (tie[0], tie[1] + page - run[0])


def part_of(run, low, high):
    first = max(run[0], low)
    return (first, min(end_of(run), high) - first, run[2], tie_from(run, first))


def goes_on(run, later):
    return end_of(run) == later[0] and run[2] == later[2] and tie_from(run, later[0]) == later[3]


def joined(runs):
    fewer = []
    for run in runs:
        if len(fewer) > 0 and goes_on(fewer[-1], run):
            last = fewer.pop()
            fewer.append((last[0], last[1] + run[1], last[2], last[3]))
        else:
            fewer.append(run)
    return fewer


class Stretches:
    def __init__(self):
        # By rising pages, and always as few runs as can be.
        self.runs = []

    def put(self, first, many, rights, tie=None):
        check_rights(rights)
        if not self.is_free(first, many):
            raise Taken("a page is mapped already")
        self.lay_amid(first, many, [(first, many, rights, tie)])

    def cut(self, first, many):
        self.check_full(first, many)
        self.lay_amid(first, many, [])

    def guard(self, first, many, rights):
        check_rights(rights)
        self.check_full(first, many)
        parts = [(part[0], part[1], rights, part[3]) for part in self.parts_amid(first, many)]
        self.lay_amid(first, many, parts)

    def check_full(self, first, many):
        if not self.is_full(first, many):
            raise NotMapped("a page is not mapped")

    def rights_at(self, page):
        part = self.part_at(page)
        return None if part is None else part[2]

    def tie_at(self, page):
        part = self.part_at(page)
        return None if part is None else part[3]

    def is_free(self, first, many):
        return len(self.parts_amid(first, many)) == 0

    def is_full(self, first, many):
        return sum([part[1] for part in self.parts_amid(first, many)]) == many

    def is_tied(self, bank):
        return any([run[3] is not None and run[3][0] == bank for run in self.runs])

    def told(self):
        return list(self.runs)

    def copied(self):
        other = Stretches()
        other.runs = list(self.runs)
        return other

    # Halving finds the place of the first run that ends behind the page, however many runs there are.
    def place_behind(self, page):
        low = 0
        high = len(self.runs)
        while low < high:
            middle = (low + high) // 2
            if end_of(self.runs[middle]) > page:
                high = middle
            else:
                low = middle + 1
        return low

    def parts_amid(self, first, many):
        end = first + many
        near = self.runs[self.place_behind(first):self.place_behind(end) + 1]
        return [part_of(run, first, end) for run in near if run[0] < end]

    def part_at(self, page):
        parts = self.parts_amid(page, 1)
        return parts[0] if len(parts) > 0 else None

    # The runs that touch either end are taken along, for they may be one with what is laid beside them.
    def lay_amid(self, first, many, parts):
        end = first + many
        low = self.place_behind(first - 1)
        high = self.place_behind(end) + 1
        near = self.runs[low:high]
        ahead = [part_of(run, run[0], first) for run in near if run[0] < first]
        behind = [part_of(run, end, end_of(run)) for run in near if end_of(run) > end]
        self.runs = self.runs[:low] + joined(ahead + parts + behind) + self.runs[high:]
