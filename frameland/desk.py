"""The desk: it is told rows of text, does their deeds by a machine, and answers in text."""

from frameland.machine import Machine
from frameland.texts import read_row, show_rights


def show_stretch(stretch):
    words = [str(stretch[0]), str(stretch[1]), show_rights(stretch[2])]
    if stretch[3] is not None:
        words = words + [str(stretch[3][0]), str(stretch[3][1])]
    return " ".join(words)


class Desk:
    def __init__(self, shape, frames, slots, places=0):
        self.machine = Machine(shape, frames, slots, places)

    def say(self, row):
        answer = self.answer_to(read_row(row))
        return "ok" if answer is None else str(answer)

    def answer_to(self, deed):
        if deed[0] == "see":
            return " ".join([str(value) for value in self.machine.page_seen(deed[1], deed[2])])
        if deed[0] == "laid":
            return "; ".join([show_stretch(stretch) for stretch in self.machine.stretches_of(deed[1])])
        if deed[0] == "live":
            return self.machine.live_sheets()
        return self.done(deed)

    # A deed that answers nothing leaves None.
    def done(self, deed):
        word = deed[0]
        if word == "new":
            return self.machine.new_task()
        if word == "fork":
            return self.machine.fork(deed[1])
        if word == "end":
            return self.machine.end_task(deed[1])
        if word == "bank":
            return self.machine.new_bank(deed[1])
        if word == "drop":
            return self.machine.drop_bank(deed[1])
        if word == "lay":
            return self.machine.lay(deed[1], deed[2], deed[3], deed[4], deed[5], deed[6])
        if word == "lift":
            return self.machine.lift(deed[1], deed[2], deed[3])
        if word == "guard":
            return self.machine.guard(deed[1], deed[2], deed[3], deed[4])
        if word == "read":
            return self.machine.read(deed[1], deed[2])
        if word == "write":
            return self.machine.write(deed[1], deed[2], deed[3])
        return self.machine.fold()
