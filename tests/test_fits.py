import itertools
import unittest

from frameland.shapes import Shape

GREAT = 10 ** 299 + 7


class FitsTest(unittest.TestCase):
    def check(self, shape, first, many, answer):
        with self.subTest(levels=shape.levels, fan=shape.fan, first=first, many=many):
            self.assertIs(shape.fits(first, many), answer)

    def test_every_stretch_about_small_rooms(self):
        for levels, fan in ((2, 1), (3, 1), (2, 2), (3, 2)):
            shape = Shape(levels, fan, 0)
            pages = range(2 ** (levels * fan))
            for first, many in itertools.product(range(-3, len(pages) + 3), range(-3, 70)):
                stretch = range(first, first + many)
                fits = 1 <= len(stretch) <= 64 and all(page in pages for page in stretch)
                self.assertIs(shape.fits(first, many), fits)

    def test_how_many_pages(self):
        for levels, fan in ((2, 4), (2, 8), (3, 3), (3, 8)):
            shape = Shape(levels, fan, 4)
            for many, answer in ((-GREAT, False), (-64, False), (-1, False), (0, False), (1, True), (2, True),
                                 (63, True), (64, True), (65, False), (66, False), (256, False), (GREAT, False)):
                self.check(shape, 0, many, answer)
                self.check(shape, 5, many, answer)

    def test_up_to_the_last_page_and_one_beyond_it(self):
        for levels, fan, grain in itertools.product((2, 3), range(1, 9), (0, 4)):
            shape = Shape(levels, fan, grain)
            pages = 2 ** (levels * fan)
            for many in (1, 2, 3, 4, min(pages, 64)):
                self.check(shape, pages - many, many, True)
                self.check(shape, pages - many + 1, many, False)
            self.check(shape, 0, min(pages, 64), True)
            self.check(shape, 0, pages + 1, False)

    def test_the_whole_of_a_room_of_64_pages(self):
        for shape in (Shape(2, 3, 0), Shape(3, 2, 0)):
            self.check(shape, 0, 64, True)
            self.check(shape, 0, 65, False)
            self.check(shape, 1, 63, True)
            self.check(shape, 1, 64, False)

    def test_a_first_page_that_the_room_does_not_have(self):
        for levels, fan in itertools.product((2, 3), range(1, 9)):
            shape = Shape(levels, fan, 0)
            pages = 2 ** (levels * fan)
            for first in (-1, -2, -64, -GREAT, pages, pages + 1, GREAT):
                for many in (-GREAT, -1, 0, 1, 2, 3, 64, 65, GREAT):
                    self.check(shape, first, many, False)

    def test_stretches_that_would_end_within_the_room(self):
        shape = Shape(2, 4, 0)
        self.check(shape, -1, 2, False)
        self.check(shape, -GREAT, GREAT + 1, False)
        self.check(shape, 256, 0, False)
        self.check(shape, 257, -5, False)
        self.check(shape, 100, -5, False)
        self.check(shape, GREAT, -GREAT, False)


if __name__ == "__main__":
    unittest.main()
