import itertools
import unittest

from frameland.errors import OutOfRoom
from frameland.shapes import Shape

GREAT = 10 ** 299 + 7


class StepsTest(unittest.TestCase):
    def test_every_page_of_small_rooms_there_and_back(self):
        for levels, fan in itertools.product((2, 3), (1, 2, 3)):
            shape = Shape(levels, fan, 1)
            rows = itertools.product(range(2 ** fan), repeat=levels)
            for page, row in enumerate(rows):
                self.assertEqual(shape.steps(page), list(row))
                self.assertEqual(shape.page_of(list(row)), page)

    def test_first_and_last_page_of_every_room(self):
        for levels, fan, grain in itertools.product((2, 3), range(1, 9), range(0, 5)):
            with self.subTest(levels=levels, fan=fan, grain=grain):
                shape = Shape(levels, fan, grain)
                last = 2 ** (levels * fan) - 1
                self.assertEqual(shape.steps(0), [0] * levels)
                self.assertEqual(shape.steps(last), [2 ** fan - 1] * levels)
                self.assertEqual(shape.page_of([0] * levels), 0)
                self.assertEqual(shape.page_of([2 ** fan - 1] * levels), last)
                self.assertEqual(shape.steps(1), [0] * (levels - 1) + [1])
                self.assertEqual(shape.steps(2 ** fan), [0] * (levels - 2) + [1, 0])

    def test_steps_that_are_written_out(self):
        self.assertEqual(Shape(2, 4, 0).steps(0x2B), [2, 11])
        self.assertEqual(Shape(2, 8, 0).steps(0x0AFF), [10, 255])
        self.assertEqual(Shape(3, 4, 0).steps(0x0C1), [0, 12, 1])
        self.assertEqual(Shape(3, 8, 4).steps(0x010203), [1, 2, 3])
        self.assertEqual(Shape(3, 3, 2).steps(0o641), [6, 4, 1])
        self.assertEqual(Shape(3, 8, 4).page_of([1, 2, 3]), 66051)
        self.assertEqual(Shape(2, 4, 0).page_of([2, 11]), 43)

    def test_there_and_back_in_great_rooms(self):
        for levels, fan in ((2, 8), (3, 7), (3, 8)):
            shape = Shape(levels, fan, 0)
            for page in range(0, 2 ** (levels * fan), 4099):
                self.assertEqual(shape.page_of(shape.steps(page)), page)

    def test_steps_are_a_list(self):
        self.assertIsInstance(Shape(2, 2, 0).steps(3), list)

    def test_pages_that_the_room_does_not_have(self):
        for levels, fan in itertools.product((2, 3), range(1, 9)):
            shape = Shape(levels, fan, 2)
            beyond = 2 ** (levels * fan)
            for page in (beyond, beyond + 1, beyond * 2, -1, -2, -beyond, GREAT, -GREAT):
                with self.subTest(levels=levels, fan=fan, page=page):
                    with self.assertRaises(OutOfRoom):
                        shape.steps(page)


class PageOfTest(unittest.TestCase):
    def check_refused(self, shape, steps):
        kept = list(steps)
        with self.subTest(levels=shape.levels, fan=shape.fan, steps=steps):
            with self.assertRaises(OutOfRoom):
                shape.page_of(steps)
            self.assertEqual(steps, kept)

    def test_lists_of_another_length(self):
        for levels, fan in itertools.product((2, 3), range(1, 9)):
            shape = Shape(levels, fan, 0)
            for length in (0, 1, levels - 1, levels + 1, levels + 2, 64):
                self.check_refused(shape, [0] * length)
                self.check_refused(shape, [1] * length)
                self.check_refused(shape, [2 ** fan - 1] * length)
            self.check_refused(shape, [0] + [1] * levels)

    def test_numbers_that_are_no_figure(self):
        for levels, fan in itertools.product((2, 3), range(1, 9)):
            shape = Shape(levels, fan, 0)
            for place in range(levels):
                for wrong in (-1, -2, 2 ** fan, 2 ** fan + 1, -(2 ** fan), GREAT, -GREAT):
                    for other in (0, 1, 2 ** fan - 1):
                        steps = [other] * levels
                        steps[place] = wrong
                        self.check_refused(shape, steps)

    def test_numbers_that_would_even_out(self):
        # Reckoned without a look at the figures these would be pages of the room.
        self.check_refused(Shape(2, 2, 0), [1, -1])
        self.check_refused(Shape(2, 2, 0), [0, 4])
        self.check_refused(Shape(3, 2, 0), [0, 1, 4])
        self.check_refused(Shape(3, 2, 0), [1, -1, 0])


class OwnListsTest(unittest.TestCase):
    def test_a_list_handed_in_stays_as_it_was(self):
        shape = Shape(3, 2, 0)
        steps = [1, 2, 3]
        self.assertEqual(shape.page_of(steps), 27)
        self.assertEqual(steps, [1, 2, 3])

    def test_a_list_handed_in_and_then_changed_changes_nothing(self):
        shape = Shape(3, 2, 0)
        steps = [1, 2, 3]
        shape.page_of(steps)
        steps[0] = 3
        steps.append(9)
        self.assertEqual(shape.page_of([1, 2, 3]), 27)
        self.assertEqual(shape.steps(27), [1, 2, 3])

    def test_a_list_told_and_then_changed_changes_nothing(self):
        shape = Shape(3, 2, 0)
        told = shape.steps(27)
        told[0] = 9
        told.append(9)
        self.assertEqual(shape.steps(27), [1, 2, 3])
        self.assertEqual(shape.page_of([1, 2, 3]), 27)
        self.assertEqual(Shape(3, 2, 0).steps(27), [1, 2, 3])

    def test_a_list_told_stays_whatever_is_asked_later(self):
        shape = Shape(3, 2, 0)
        told = shape.steps(27)
        again = shape.steps(27)
        self.assertIsNot(told, again)
        shape.steps(0)
        Shape(2, 3, 0).steps(5)
        shape.page_of(told)
        self.assertEqual(told, [1, 2, 3])
        self.assertEqual(again, [1, 2, 3])


if __name__ == "__main__":
    unittest.main()
