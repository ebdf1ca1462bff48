import itertools
import unittest

from frameland import errors
from frameland.desk import Desk
from frameland.errors import (
    BadRights, Busy, NoBank, NoRight, NoRoom, NoRow, NoShape, NotMapped, NoTask, OutOfBank, OutOfRoom, Taken,
)
from frameland.machine import Machine
from frameland.shapes import Shape
from frameland.texts import read_row, show_row
from tests.plain import Chooser, done

SIXTY = "9" * 60


class DeskCase(unittest.TestCase):
    def opened(self, frames=4, slots=4, places=2):
        """Pages of two boxes; task 0 with private pages 0 to 3, and 10 to 11 tied to bank 0's pages 1 to 2."""
        desk = Desk(Shape(2, 2, 1), frames, slots, places)
        for row in ("new", "bank 4", "lay 0 0 4 rw", "lay 0 10 2 rw 0 1"):
            desk.say(row)
        return desk

    def said(self, desk, *rows):
        return [desk.say(row) for row in rows]

    def state(self, desk):
        return self.said(desk, "live", "laid 0") + [desk.say(f"see 0 {page}") for page in (0, 1, 2, 3, 10, 11)]

    def refused(self, error, desk, row):
        before = self.state(desk)
        with self.subTest(row=row):
            with self.assertRaises(errors.FrameError) as caught:
                desk.say(row)
            self.assertIs(type(caught.exception), error)
        self.assertEqual(self.state(desk), before)


class AnswersTest(DeskCase):
    def test_each_form(self):
        desk = Desk(Shape(2, 2, 1), 2, 2)
        for row, answer in (
            ("new", "0"), ("new", "1"), ("fork 0", "2"), ("end 1", "ok"), ("bank 4", "0"), ("bank 1", "1"),
            ("drop 1", "ok"), ("laid 0", ""), ("lay 0 4 2 rw", "ok"), ("lay 0 8 2 r- 0 2", "ok"),
            ("lay 0 6 1 --", "ok"), ("live", "0"),
            ("laid 0", "4 2 rw; 6 1 --; 8 2 r- 0 2"), ("read 0 8", "0"), ("live", "1"), ("write 0 8 -12", "ok"),
            ("read 0 8", "-12"), ("see 0 4", "-12 0"), ("see 0 5", "0 0"), ("see 0 6", "0 0"), ("see 0 9", "0 0"),
            ("fork 0", "1"), ("write 1 9 7", "ok"), ("see 1 4", "-12 7"), ("see 0 4", "-12 0"), ("live", "2"),
            ("write 0 9 7", "ok"), ("fold", "1"), ("fold", "0"), ("live", "1"), ("guard 0 4 1 -w", "ok"),
            ("laid 0", "4 1 -w; 5 1 rw; 6 1 --; 8 2 r- 0 2"), ("lift 0 5 2", "ok"), ("laid 0", "4 1 -w; 8 2 r- 0 2"),
            ("laid 2", ""), ("end 0", "ok"), ("end 1", "ok"), ("live", "0"), ("drop 0", "ok"), ("new", "0"),
        ):
            self.assertEqual(desk.say(row), answer, row)

    def test_numbers_of_sixty_figures(self):
        desk = self.opened()
        for value in (SIXTY, "-" + SIXTY):
            self.assertEqual(self.said(desk, f"write 0 1 {value}", "read 0 1", "see 0 0"), ["ok", value, f"0 {value}"])

    def test_see_of_every_size(self):
        for grain in range(5):
            desk = Desk(Shape(2, 1, grain), 1, 0)
            self.said(desk, "new", "lay 0 3 1 rw", f"write 0 {4 * 2 ** grain - 1} 5")
            self.assertEqual(desk.say("see 0 3"), " ".join(["0"] * (2 ** grain - 1) + ["5"]))

    def test_see_whatever_its_rights_and_needs_no_sheet(self):
        desk = self.opened(1, 0)
        self.said(desk, "write 0 20 6", "guard 0 10 1 --", "guard 0 0 1 --")
        self.assertEqual(self.said(desk, "see 0 10", "see 0 0", "live"), ["6 0", "0 0", "1"])

    def test_laid_joins_what_goes_on(self):
        desk = Desk(Shape(2, 4, 0), 1, 0)
        self.said(desk, "new", "bank 8", "lay 0 0 64 rw", "lay 0 64 64 rw", "lay 0 200 2 -w 0 3", "lay 0 202 2 -w 0 5")
        self.assertEqual(desk.say("laid 0"), "0 128 rw; 200 4 -w 0 3")

    def test_lay_without_a_bank_is_private(self):
        desk = self.opened()
        self.said(desk, "lay 0 4 1 rw", "lay 0 5 1 rw 0 0", "write 0 8 5", "write 0 10 6")
        self.assertEqual(self.said(desk, "see 0 4", "see 0 5"), ["5 0", "6 0"])
        self.assertEqual(desk.say("laid 0"), "0 5 rw; 5 1 rw 0 0; 10 2 rw 0 1")


class RefusalsTest(DeskCase):
    def test_what_the_machine_refuses(self):
        desk = self.opened(1, 0)
        self.said(desk, "write 0 0 5", "guard 0 2 1 r-", "guard 0 3 1 -w")
        for row, error in (
            ("fork 1", NoTask), ("end 1", NoTask), ("bank 0", OutOfBank), ("bank 65", OutOfBank),
            (f"bank {SIXTY}", OutOfBank), ("drop 1", NoBank), ("drop 0", Busy), ("lay 1 99 1 rw", NoTask),
            ("lay 0 16 1 rw", OutOfRoom), ("lay 0 0 0 rw", OutOfRoom), ("lay 0 0 1 rw 7 0", NoBank),
            ("lay 0 0 1 rw 0 4", OutOfBank), ("lay 0 3 2 rw", Taken), ("lift 1 0 99", NoTask),
            ("lift 0 15 2", OutOfRoom), ("lift 0 3 2", NotMapped), ("guard 1 0 99 rw", NoTask),
            ("guard 0 0 65 rw", OutOfRoom), ("guard 0 4 1 rw", NotMapped), ("read 1 0", NoTask),
            (f"read 0 {SIXTY}", OutOfRoom), ("read 0 32", OutOfRoom), ("read 0 10", NotMapped), ("read 0 6", NoRight),
            ("write 0 4 1", NoRight), ("read 0 2", NoRoom), ("write 0 2 0", NoRoom), ("write 2 0 0", NoTask),
            ("write 0 32 0", OutOfRoom), ("write 0 10 0", NotMapped),
        ):
            self.refused(error, desk, row)

    def test_see(self):
        desk = self.opened()
        for row, error in (("see 1 0", NoTask), ("see 1 16", NoTask), ("see 1 9", NoTask), ("see 0 16", OutOfRoom),
                           (f"see 0 {SIXTY}", OutOfRoom), ("see 0 9", NotMapped), ("see 0 15", NotMapped),
                           ("see 0 4", NotMapped)):
            self.refused(error, desk, row)

    def test_laid(self):
        desk = self.opened()
        for row in ("laid 1", f"laid {SIXTY}"):
            self.refused(NoTask, desk, row)

    def test_a_row_that_tells_no_deed_ahead_of_all_else(self):
        desk = self.opened(1, 0)
        for row in ("", " ", "new ", " new", "fork", "fork 01", "fork -1", "see 9 -1", "see 9", "laid", "laid 9 9",
                    "live 0", "fold 0", "lay 9 99 0 rx", "lay 9 99 0 rw 9", "lay 0 0 1 3", "guard 9 0 0 r",
                    "write 9 0", "write 9 0 -0", "read 9 0 0", "bank -1", "drop 9 ", "end  9", "read 9 " + "1" * 61,
                    "new\n", "NEW", "%"):
            self.refused(NoRow, desk, row)

    def test_bad_rights_cannot_be_told(self):
        self.assertEqual(BadRights.__bases__, (errors.FrameError,))
        for rights in range(4):
            desk = self.opened()
            self.assertEqual(desk.say(show_row(("guard", 0, 0, 1, rights))), "ok")

    def test_sizes(self):
        for frames, slots, places in ((0, 1, 1), (65, 1, 1), (1, -1, 1), (1, 65, 1), (1, 1, -1), (1, 1, 65)):
            with self.assertRaises(NoShape):
                Desk(Shape(2, 1, 0), frames, slots, places)
        for frames, slots, places in itertools.product((1, 64), (0, 64), (0, 64)):
            self.assertEqual(Desk(Shape(2, 1, 0), frames, slots, places).say("live"), "0")
        with self.assertRaises(NoShape):
            Desk(Shape(2, 1, 0), 1, 65)


class BesideTest(DeskCase):
    WORDS = {"new_task": "new", "end_task": "end", "new_bank": "bank", "drop_bank": "drop"}

    def deed_row(self, deed):
        """The row that tells a machine's deed, or None where no row can: numbers below 0 or too long, other rights."""
        handed = deed[1:] + (None, 0) if deed[0] == "lay" and len(deed) == 5 else deed[1:]
        row = (self.WORDS.get(deed[0], deed[0]),) + handed
        try:
            text = show_row(row)
            return text if read_row(text) == row else None
        except (NoRow, IndexError):
            return None

    def test_rows_beside_a_machine_told_the_same_deeds(self):
        for seed in range(6):
            shape = Shape(2, 2, 1)
            desk, machine = Desk(shape, 2, 4, 2), Machine(shape, 2, 4, 2)
            chooser = Chooser(seed, 16, 2)
            for step in range(300):
                deed = chooser.deed(machine)
                row = self.deed_row(deed)
                if row is not None:
                    self.check_row(desk, machine, row, deed)

    def check_row(self, desk, machine, row, deed):
        kind, answer = done(machine, deed)
        if kind == "refused":
            self.assertEqual(done(desk, ("say", row)), ("refused", answer), row)
        else:
            self.assertEqual(desk.say(row), "ok" if answer is None else str(answer))
        self.assertEqual(desk.say("live"), str(machine.live_sheets()))
        for task in machine.task_list():
            for page, rights, boxes in machine.seen_by(task):
                self.assertEqual(desk.say(f"see {task} {page}"), " ".join(str(value) for value in boxes))

    def test_two_desks_beside_one_another(self):
        shape = Shape(2, 2, 1)
        one, other = Desk(shape, 1, 1), Desk(shape, 1, 1)
        self.said(one, "new", "lay 0 0 1 rw", "write 0 0 5")
        self.assertEqual(self.said(other, "live", "new", "laid 0"), ["0", "0", ""])

    def test_arguments_bear_their_names(self):
        desk = Desk(places=1, slots=1, frames=1, shape=Shape(2, 1, 0))
        self.assertEqual(desk.say(row="new"), "0")


if __name__ == "__main__":
    unittest.main()
