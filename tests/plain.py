"""Parts of the program written once more, as plainly as can be, for the tests to set beside it."""
import random

from frameland.errors import FrameError, NoRight, NoRoom, NotMapped, NoTask, OutOfRoom
from frameland.house import House

GREAT = 10 ** 299 + 7


def frame(number):
    return ("frame", number)


def slot(number):
    return ("slot", number)


class PlainBook:
    """The book written once more, with lists that are walked for each thing asked."""

    def __init__(self, many):
        self.rows, self.hand = [None] * many, 0

    def place(self, task, page):
        for place, row in enumerate(self.rows):
            if row is not None and (row[0], row[1]) == (task, page):
                return place
        return None

    def look(self, task, page):
        place = self.place(task, page)
        return None if place is None else self.rows[place][2]

    def use(self, task, page):
        place = self.place(task, page)
        if place is not None:
            self.rows[place][3] = True

    def keep(self, task, page, entry):
        place = self.place(task, page)
        if place is not None:
            self.rows[place][2] = entry
        elif None in self.rows:
            self.rows[self.rows.index(None)] = [task, page, entry, False]
        elif self.rows:
            while self.rows[self.hand][3]:
                self.rows[self.hand][3] = False
                self.hand = (self.hand + 1) % len(self.rows)
            self.rows[self.hand] = [task, page, entry, False]
            self.hand = (self.hand + 1) % len(self.rows)

    def strike(self, task, page):
        self.rows = [None if row is not None and row[:2] == [task, page] else row for row in self.rows]

    def strike_task(self, task):
        self.rows = [None if row is not None and row[0] == task else row for row in self.rows]

    def told(self):
        return [None if row is None else tuple(row) for row in self.rows]


class PlainWorld:
    """Pages that have lists, and share them as Python shares lists: what lives is what some page still has."""

    def __init__(self, pages, size, most):
        self.pages, self.size, self.most = pages, size, most
        self.tasks, self.banks = {}, {}

    def live(self):
        sheets = [page["sheet"] for task in self.tasks.values() for page in task.values()]
        sheets += [sheet for bank in self.banks.values() for sheet in bank]
        return {id(sheet): sheet for sheet in sheets if sheet is not None}

    def private(self):
        return [page for task in self.tasks.values() for page in task.values() if page["tie"] is None]

    def fresh(self, values):
        if len(self.live()) >= self.most:
            raise NoRoom()
        return list(values)

    def reach(self, task, address, want):
        page, box = divmod(address, self.size)
        if task not in self.tasks:
            raise NoTask()
        if not 0 <= page < self.pages:
            raise OutOfRoom()
        row = self.tasks[task].get(page)
        if row is None:
            raise NotMapped()
        if not row["rights"] & want:
            raise NoRight()
        if row["tie"] is not None:
            bank, place = row["tie"]
            if self.banks[bank][place] is None:
                self.banks[bank][place] = self.fresh([0] * self.size)
            return self.banks[bank][place], box
        if row["sheet"] is None:
            row["sheet"] = self.fresh([0] * self.size)
        elif want == 2 and sum(other["sheet"] is row["sheet"] for other in self.private()) > 1:
            row["sheet"] = self.fresh(row["sheet"])
        return row["sheet"], box

    def fold(self):
        before, first = len(self.live()), {}
        for page in self.private():
            if page["sheet"] is not None:
                page["sheet"] = first.setdefault(tuple(page["sheet"]), page["sheet"])
        return before - len(self.live())

    def seen(self, task):
        rows = []
        for page, row in sorted(self.tasks[task].items()):
            sheet = row["sheet"] if row["tie"] is None else self.banks[row["tie"][0]][row["tie"][1]]
            rows.append((page, row["rights"], [0] * self.size if sheet is None else list(sheet)))
        return rows


class PlainSheets:
    """Written once more: a list of living sheets, each of which knows where it lies and which slot is its twin."""

    def __init__(self, frames, slots):
        self.frames, self.slots = frames, slots
        self.live, self.hand, self.counts = [], 0, [0, 0, 0]

    def at(self, spot):
        return next((sheet for sheet in self.live if sheet["spot"] == spot), None)

    def empty_frames(self):
        return [number for number in range(self.frames) if self.at(frame(number)) is None]

    def empty_slots(self):
        twins = [sheet["twin"] for sheet in self.live]
        return [number for number in range(self.slots) if self.at(slot(number)) is None and number not in twins]

    def put_out(self, chosen, coming):
        leaving = self.at(frame(chosen))
        twinned = sorted((sheet["spot"][1], sheet["twin"]) for sheet in self.live if sheet["twin"] is not None)
        self.counts[0] += 1
        if leaving["twin"] is not None:
            target = leaving["twin"]
        else:
            self.counts[1] += 1
            ways = self.empty_slots() + [twin for number, twin in twinned]
            target = ways[0] if ways else coming["spot"][1]
        for sheet in self.live:
            if sheet["twin"] == target:
                sheet["twin"] = None
        leaving["spot"] = slot(target)
        return (target, sorted(leaving["holders"]))

    def enter(self, sheet, marks):
        passed, out, coming_from = [], None, sheet["spot"]
        empty = self.empty_frames()
        if empty:
            chosen = empty[0]
        else:
            marks = list(marks)
            while marks[self.hand]:
                marks[self.hand] = False
                passed.append(self.hand)
                self.hand = (self.hand + 1) % self.frames
            chosen = self.hand
            self.hand = (self.hand + 1) % self.frames
            out = self.put_out(chosen, sheet)
        sheet["spot"] = frame(chosen)
        if coming_from is not None:
            self.counts[2] += 1
            if self.at(coming_from) is None:
                sheet["twin"] = coming_from[1]
        return (chosen, passed, out)

    def fresh(self, values, holder, marks):
        if len(self.live) == self.frames + self.slots:
            raise NoRoom()
        sheet = {"values": list(values), "holders": {holder}, "spot": None, "twin": None}
        answer = self.enter(sheet, marks)
        self.live.append(sheet)
        return answer

    def back(self, number, marks):
        return self.enter(self.at(slot(number)), marks)

    def let_go(self, spot, holder):
        self.at(spot)["holders"].remove(holder)
        self.live = [sheet for sheet in self.live if sheet["holders"]]

    def fold(self):
        gone = []
        for sheet in sorted(self.live, key=lambda sheet: sheet["spot"]):
            if any(holder[0] == "bank" for holder in sheet["holders"]):
                continue
            earlier = [
                other for other in self.live if other["values"] == sheet["values"] and other["spot"] < sheet["spot"]
                and not any(holder[0] == "bank" for holder in other["holders"])
            ]
            if earlier:
                first = min(earlier, key=lambda other: other["spot"])
                first["holders"] |= sheet["holders"]
                gone.append((sheet["spot"], first["spot"]))
                self.live.remove(sheet)
        return gone

    def told_frames(self):
        rows = [self.at(frame(number)) for number in range(self.frames)]
        return [row and (row["values"], sorted(row["holders"]), row["twin"]) for row in rows]

    def told_slots(self):
        rows = []
        for number in range(self.slots):
            lying = self.at(slot(number))
            twin = next((sheet for sheet in self.live if sheet["twin"] == number), None)
            if lying is not None:
                rows.append((lying["values"], sorted(lying["holders"]), None))
            else:
                rows.append(twin and (twin["values"], [], twin["spot"][1]))
        return rows


class PlainKeeper:
    """Written once more: no entry is kept; each is reckoned anew from where the sheets lie and who holds them."""

    def __init__(self, size, frames, slots, places):
        self.size, self.most, self.frames = size, frames + slots, frames
        self.sheets, self.book = PlainSheets(frames, slots), PlainBook(places)
        self.pages = {}  # by holder: its sheet's spot, whether seen and changed, and for a task's page rights and tie
        self.served_count, self.touched, self.noughts, self.copies, self.folded = 0, 0, 0, 0, 0

    def sheet_of(self, holder):
        return next((sheet for sheet in self.sheets.live if holder in sheet["holders"]), None)

    def entries(self):
        rows = {}
        for sheet in self.sheets.live:
            kind, number = sheet["spot"]
            for holder in sheet["holders"]:
                state, rows[holder] = self.pages[holder], 32 * number
                if kind == "frame":
                    rows[holder] += 4
                    if holder[0] == "task":
                        writes = state["tie"] is not None or len(sheet["holders"]) == 1
                        rows[holder] += state["rights"] if writes else state["rights"] % 2
                        rows[holder] += 8 * state["seen"] + 16 * state["changed"]
        return rows

    def sync(self):
        spots = {holder: sheet["spot"] for sheet in self.sheets.live for holder in sheet["holders"]}
        for holder in [holder for holder in self.pages if holder not in spots]:
            self.pages.pop(holder)
        for holder, spot in spots.items():
            state = self.pages.setdefault(holder, {"spot": None})
            if state["spot"] != spot:
                state.update(spot=spot, seen=False, changed=False)

    def strike(self):
        entries = self.entries()
        for row in self.book.told():
            if row is not None and entries.get(("task", row[0], row[1])) != row[2]:
                self.book.strike(row[0], row[1])

    def enter(self, deed, handed):
        self.sync()
        lying = [self.sheets.at(frame(number)) for number in range(self.frames)]
        holders = [[] if sheet is None else list(sheet["holders"]) for sheet in lying]
        marks = [any(self.pages[holder]["seen"] for holder in row) for row in holders]
        answer = deed(*handed, marks)
        for number in answer[1]:
            for holder in holders[number]:
                self.pages[holder]["seen"] = False
        if answer[2] is not None:
            for holder in answer[2][1]:
                if holder[0] == "task" and self.pages[holder]["tie"] is not None:
                    self.sheets.let_go(slot(answer[2][0]), holder)
        self.sync()

    def touch(self, task, page, rights, tie, want):
        me = ("task", task, page)
        owner = me if tie is None else ("bank", tie[0], tie[1])
        sheet = self.sheet_of(owner)
        copies = sheet is not None and tie is None and want == 2 and len(sheet["holders"]) > 1
        if (sheet is None or copies) and len(self.sheets.live) == self.most:
            raise NoRoom()
        if copies:
            self.copies += 1
            self.sheets.let_go(sheet["spot"], me)
            self.enter(self.sheets.fresh, (sheet["values"], me))
        elif sheet is None:
            self.noughts += 1
            self.enter(self.sheets.fresh, ([0] * self.size, owner))
        elif sheet["spot"][0] == "slot":
            self.enter(self.sheets.back, (sheet["spot"][1],))
        self.sheet_of(owner)["holders"].add(me)
        self.sync()
        state = self.pages[me]
        state.update(rights=rights, tie=tie, seen=True, changed=state["changed"] or want == 2)
        self.strike()
        self.book.keep(task, page, self.entries()[me])
        self.touched += 1
        return state["spot"][1]

    def served(self, task, page, want):
        entry = self.book.look(task, page)
        if entry is None or entry & (1 if want == 1 else 18) != (1 if want == 1 else 18):
            return None
        self.book.use(task, page)
        self.served_count += 1
        return entry // 32

    def let_go(self, holder):
        sheet = self.sheet_of(holder)
        if sheet is not None:
            self.sheets.let_go(sheet["spot"], holder)
        self.sync()
        self.strike()

    def release(self, task, page):
        self.let_go(("task", task, page))

    def guard(self, task, page, rights):
        if ("task", task, page) in self.pages:
            self.pages[("task", task, page)]["rights"] = rights
            self.strike()

    def share(self, task, page, other):
        state = self.pages.get(("task", task, page))
        if state is not None and state["tie"] is None:
            self.sheet_of(("task", task, page))["holders"].add(("task", other, page))
            self.pages[("task", other, page)] = dict(state, seen=False, changed=False)
            self.strike()

    def close_task(self, task):
        for holder in [holder for holder in self.pages if holder[:2] == ("task", task)]:
            self.let_go(holder)

    def close_bank(self, bank):
        for holder in [holder for holder in self.pages if holder[:2] == ("bank", bank)]:
            self.let_go(holder)

    def fold(self):
        gone = len(self.sheets.fold())
        self.folded += gone
        self.sync()
        self.strike()
        return gone

    def set_box(self, number, box, value):
        self.sheets.at(frame(number))["values"][box] = value
        self.sheets.at(frame(number))["twin"] = None

    def counts(self):
        made = (self.served_count, self.touched, self.noughts, self.copies)
        return made + tuple(self.sheets.counts) + (self.folded, len(self.sheets.live))


class PlainMachine:
    """A house and the plain keeper, with the deeds of rooms; blank and tied pages are looked up page by page."""

    def __init__(self, shape, frames, slots, places):
        self.shape, self.house = shape, House(shape)
        self.keeper = PlainKeeper(shape.sheet_size(), frames, slots, places)

    def new_task(self):
        return self.house.new_task()

    def fork(self, task):
        other = self.house.fork(task)
        for page in range(self.shape.page_count()):
            self.keeper.share(task, page, other)
        return other

    def end_task(self, task):
        self.house.end_task(task)
        self.keeper.close_task(task)

    def new_bank(self, many):
        return self.house.new_bank(many)

    def drop_bank(self, bank):
        self.house.drop_bank(bank)
        self.keeper.close_bank(bank)

    def lay(self, task, first, many, rights, bank=None, start=0):
        self.house.lay(task, first, many, rights, bank, start)

    def lift(self, task, first, many):
        self.house.lift(task, first, many)
        for step in range(many):
            self.keeper.release(task, first + step)

    def guard(self, task, first, many, rights):
        self.house.guard(task, first, many, rights)
        for step in range(many):
            self.keeper.guard(task, first + step, rights)

    def reach(self, task, address, want):
        number = self.keeper.served(task, address // self.shape.sheet_size(), want)
        if number is None:
            page, box = self.house.asked(task, address, want)
            rights, tie = self.house.rights_at(task, page), self.house.tie_at(task, page)
            number = self.keeper.touch(task, page, rights, tie, want)
        return number, address % self.shape.sheet_size()

    def read(self, task, address):
        number, box = self.reach(task, address, 1)
        return self.keeper.sheets.at(frame(number))["values"][box]

    def write(self, task, address, value):
        number, box = self.reach(task, address, 2)
        self.keeper.set_box(number, box, value)

    def fold(self):
        return self.keeper.fold()


def done(one, deed):
    """What a deed answers, or the refusal's class."""
    try:
        return ("answer", getattr(one, deed[0])(*deed[1:]))
    except FrameError as refusal:
        return ("refused", type(refusal))


class Chooser:
    """Deeds by chance: most of them on what is there, some on what is not."""

    def __init__(self, seed, pages, size, tasks=5, banks=3):
        self.chance = random.Random(seed)
        self.pages, self.size, self.tasks, self.banks = pages, size, tasks, banks
        self.recent = (0, 0)

    def rarely(self, usual, rare):
        return self.chance.choice(rare) if self.chance.random() < 0.03 else usual

    def task(self, one):
        return self.rarely(self.chance.choice(one.task_list() or [0]), (-1, self.tasks, GREAT))

    def bank(self, one):
        return self.rarely(self.chance.choice(one.bank_list() or [0]), (-1, self.banks, GREAT))

    def rights(self):
        return self.rarely(self.chance.choice((0, 1, 2, 3, 3, 3, 3, 3)), (-1, 4, GREAT))

    def mapped(self, one, task):
        if task not in one.task_list():
            return []
        return [row[0] + step for row in one.stretches_of(task) for step in range(row[1])]

    def stretch(self, one, task, on_mapped):
        mapped, few = self.mapped(one, task), self.chance.randint(1, 3)
        first = self.chance.randrange(min(self.pages, 12))
        if on_mapped and mapped and self.chance.random() < 0.8:
            first, few = self.chance.choice(mapped), self.chance.choice((1, 1, few))
        wrong = ((-1, 2), (self.pages, 1), (self.pages - 1, 2), (0, 0), (0, 65), (GREAT, 1), (0, -GREAT))
        return self.rarely((first, few), wrong)

    def access(self, one):
        if self.chance.random() < 0.3:
            return self.recent
        task = self.task(one)
        page = self.chance.choice(self.mapped(one, task) or [0])
        if self.chance.random() < 0.06:
            page = self.chance.randrange(self.pages)
        self.recent = (task, page * self.size + self.chance.randrange(self.size))
        return self.rarely(self.recent, ((task, -1), (task, self.pages * self.size), (task, GREAT), (task, -GREAT)))

    def deed(self, one):
        kind = self.chance.choice(("read", "write") * 12 + ("lay",) * 4 + ("lift", "guard", "fork", "other", "other"))
        task = self.task(one)
        if kind == "read":
            return ("read",) + self.access(one)
        if kind == "write":
            return ("write",) + self.access(one) + (self.chance.choice((0, 0, 1, 2, -GREAT)),)
        if kind == "lay" and self.chance.random() < 0.4:
            start = self.chance.choice((0, 0, 1, 1, 2, 3, -1))
            return ("lay", task) + self.stretch(one, task, False) + (self.rights(), self.bank(one), start)
        if kind in ("lay", "guard"):
            return (kind, task) + self.stretch(one, task, kind == "guard") + (self.rights(),)
        if kind == "lift":
            return ("lift", task) + self.stretch(one, task, True)
        if kind == "fork" and len(one.task_list()) < self.tasks:
            return self.chance.choice((("fork", task), ("fork", task), ("new_task",)))
        if kind == "fork":
            return ("end_task", task)
        return self.chance.choice((
            ("fold",), ("drop_bank", self.bank(one)), ("end_task", task) if len(one.task_list()) > 1 else ("new_task",),
            ("new_bank", self.rarely(4, (0, 65, 1, 64))) if len(one.bank_list()) < self.banks else ("fold",),
        ))
