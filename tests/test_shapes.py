import itertools
import unittest

from frameland.errors import NoShape, OutOfRoom
from frameland.shapes import Shape

GREAT = 10 ** 299 + 7
MEASURES = list(itertools.product((2, 3), range(1, 9), range(0, 5)))
NO_NUMBERS = [True, False, None, "", "2", "x", 2.0, 1.5, [], [2], (), (2,), {}, {2: 2}, object()]


class MakingTest(unittest.TestCase):
    def test_every_shape_that_may_be_made(self):
        self.assertEqual(len(MEASURES), 80)
        for levels, fan, grain in MEASURES:
            with self.subTest(levels=levels, fan=fan, grain=grain):
                shape = Shape(levels, fan, grain)
                self.assertEqual((shape.levels, shape.fan, shape.grain), (levels, fan, grain))
                self.assertEqual(shape.sheet_size(), 2 ** grain)
                self.assertEqual(shape.page_count(), 2 ** (levels * fan))

    def test_sizes_that_are_written_out(self):
        sizes = [Shape(2, 1, grain).sheet_size() for grain in range(5)]
        self.assertEqual(sizes, [1, 2, 4, 8, 16])
        self.assertEqual(Shape(2, 1, 0).page_count(), 4)
        self.assertEqual(Shape(3, 1, 0).page_count(), 8)
        self.assertEqual(Shape(2, 3, 4).page_count(), 64)
        self.assertEqual(Shape(2, 8, 0).page_count(), 65536)
        self.assertEqual(Shape(3, 8, 4).page_count(), 16777216)

    def test_arguments_bear_their_names(self):
        shape = Shape(grain=4, levels=3, fan=2)
        self.assertEqual((shape.levels, shape.fan, shape.grain), (3, 2, 4))
        self.assertEqual(shape.address(box=1, page=2), 33)
        self.assertEqual(shape.parted(address=33), (2, 1))
        self.assertEqual(shape.page_of(steps=shape.steps(page=27)), 27)
        self.assertIs(shape.fits(many=1, first=63), True)

    def check_refused(self, levels, fan, grain):
        with self.subTest(levels=repr(levels), fan=repr(fan), grain=repr(grain)):
            with self.assertRaises(NoShape):
                Shape(levels, fan, grain)

    def test_levels_that_are_none(self):
        for levels in [1, 4, 0, -1, -2, -3, 8, 64, GREAT, -GREAT] + NO_NUMBERS:
            self.check_refused(levels, 2, 2)

    def test_fans_that_are_none(self):
        for fan in [0, 9, -1, -8, 10, 64, GREAT, -GREAT] + NO_NUMBERS:
            self.check_refused(2, fan, 2)

    def test_grains_that_are_none(self):
        for grain in [-1, 5, -4, 6, 16, GREAT, -GREAT] + NO_NUMBERS:
            self.check_refused(2, 2, grain)

    def test_several_that_are_none(self):
        self.check_refused(1, 0, -1)
        self.check_refused(None, "1", [])
        self.check_refused(True, True, False)

    def test_what_is_refused_stays_as_it_was(self):
        row = [2, [3]]
        self.check_refused(row, row, row)
        self.assertEqual(row, [2, [3]])


class AddressTest(unittest.TestCase):
    def test_every_address_of_small_rooms(self):
        for levels, fan, grain in itertools.product((2, 3), (1, 2), range(0, 5)):
            shape = Shape(levels, fan, grain)
            boxes = list(itertools.product(range(2 ** (levels * fan)), range(2 ** grain)))
            for address, (page, box) in enumerate(boxes):
                self.assertEqual(shape.parted(address), (page, box))
                self.assertEqual(shape.address(page, box), address)

    def test_first_and_last_of_every_room(self):
        for levels, fan, grain in MEASURES:
            with self.subTest(levels=levels, fan=fan, grain=grain):
                shape = Shape(levels, fan, grain)
                size, pages = 2 ** grain, 2 ** (levels * fan)
                self.assertEqual(shape.parted(0), (0, 0))
                self.assertEqual(shape.parted(size - 1), (0, size - 1))
                self.assertEqual(shape.parted(size), (1, 0))
                self.assertEqual(shape.parted(pages * size - 1), (pages - 1, size - 1))
                self.assertEqual(shape.address(0, 0), 0)
                self.assertEqual(shape.address(0, size - 1), size - 1)
                self.assertEqual(shape.address(1, 0), size)
                self.assertEqual(shape.address(pages - 1, 0), pages * size - size)
                self.assertEqual(shape.address(pages - 1, size - 1), pages * size - 1)

    def test_addresses_that_are_written_out(self):
        shape = Shape(3, 8, 4)
        self.assertEqual(shape.parted(1000), (62, 8))
        self.assertEqual(shape.address(62, 8), 1000)
        self.assertEqual(shape.parted(268435455), (16777215, 15))
        self.assertEqual(shape.address(16777215, 15), 268435455)

    def test_parted_answers_a_tuple(self):
        self.assertIsInstance(Shape(2, 2, 2).parted(5), tuple)

    def test_addresses_that_the_room_does_not_have(self):
        for levels, fan, grain in MEASURES:
            shape = Shape(levels, fan, grain)
            beyond = 2 ** (levels * fan + grain)
            for address in (beyond, beyond + 1, -1, -2, -beyond, GREAT, -GREAT):
                with self.subTest(levels=levels, fan=fan, grain=grain, address=address):
                    with self.assertRaises(OutOfRoom):
                        shape.parted(address)

    def test_pages_and_boxes_that_are_not_there(self):
        for levels, fan, grain in MEASURES:
            shape = Shape(levels, fan, grain)
            size, pages = 2 ** grain, 2 ** (levels * fan)
            wrong = [(page, 0) for page in (pages, pages + 1, -1, -pages, GREAT, -GREAT)]
            wrong += [(page, size - 1) for page in (pages, -1)]
            wrong += [(0, box) for box in (size, size + 1, -1, -size, GREAT, -GREAT)]
            wrong += [(pages - 1, size), (1, -1), (pages, -1), (-1, size), (pages, size), (GREAT, -GREAT)]
            for page, box in wrong:
                with self.subTest(levels=levels, fan=fan, grain=grain, page=page, box=box):
                    with self.assertRaises(OutOfRoom):
                        shape.address(page, box)


class ApartTest(unittest.TestCase):
    def told(self, shape):
        return (
            shape.levels, shape.fan, shape.grain, shape.sheet_size(), shape.page_count(),
            shape.parted(13), shape.address(3, 0), shape.steps(3), shape.fits(0, 4), shape.fits(0, 5),
        )

    def test_two_shapes_do_not_disturb_one_another(self):
        small = Shape(2, 1, 2)
        before = self.told(small)
        self.assertEqual(before, (2, 1, 2, 4, 4, (3, 1), 12, [1, 1], True, False))
        great = Shape(3, 8, 4)
        self.assertEqual(self.told(small), before)
        self.assertEqual(self.told(great), (3, 8, 4, 16, 16777216, (0, 13), 48, [0, 0, 3], True, True))
        self.assertEqual(self.told(small), before)

    def test_a_refusal_changes_nothing(self):
        shape = Shape(2, 1, 2)
        before = self.told(shape)
        refusals = [
            lambda: shape.parted(16), lambda: shape.address(4, 0), lambda: shape.address(0, 4),
            lambda: shape.steps(4), lambda: shape.page_of([0, 2]), lambda: shape.page_of([]),
        ]
        for refused in refusals:
            with self.assertRaises(OutOfRoom):
                refused()
            self.assertEqual(self.told(shape), before)
        with self.assertRaises(NoShape):
            Shape(3, 9, 0)
        self.assertEqual(self.told(shape), before)


if __name__ == "__main__":
    unittest.main()
