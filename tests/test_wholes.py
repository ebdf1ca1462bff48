import unittest

from frameland.wholes import is_whole, is_within

GREAT = 10 ** 299 + 7  # of three hundred figures
WHOLES = [0, 1, -1, 2, -2, 31, 64, 65, -1000, 2 ** 63, -(2 ** 64), 10 ** 60, GREAT, -GREAT]
OTHERS = [
    True, False, None, "", "0", "7", "-1", "seven", 0.0, 1.5, 7.0, float("inf"), float("nan"), 1j, b"1",
    [], [1], [7, 8], (), (1,), (7, 8), {}, {1: 1}, {"7": 7}, {1, 2}, range(3), object(), int, len,
]


class IsWholeTest(unittest.TestCase):
    def test_ints_of_either_sign_and_of_many_figures(self):
        for number in WHOLES:
            with self.subTest(number=number):
                self.assertIs(is_whole(number), True)

    def test_things_of_other_kinds(self):
        for thing in OTHERS:
            with self.subTest(thing=repr(thing)):
                self.assertIs(is_whole(thing), False)


class IsWithinTest(unittest.TestCase):
    def test_the_bounds_and_the_numbers_next_to_them(self):
        bounds = [(0, 0), (0, 1), (2, 3), (1, 8), (-5, 5), (-9, -3), (-GREAT, GREAT), (GREAT, GREAT + 4), (0, 10 ** 60)]
        for low, high in bounds:
            with self.subTest(low=low, high=high):
                self.assertIs(is_within(low, low, high), True)
                self.assertIs(is_within(high, low, high), True)
                self.assertIs(is_within((low + high) // 2, low, high), True)
                self.assertIs(is_within(low - 1, low, high), False)
                self.assertIs(is_within(high + 1, low, high), False)

    def test_every_number_about_some_bounds(self):
        for number in range(-12, 13):
            self.assertIs(is_within(number, -4, 6), number in range(-4, 7))

    def test_numbers_far_off(self):
        self.assertIs(is_within(GREAT, 0, 64), False)
        self.assertIs(is_within(-GREAT, 0, 64), False)
        self.assertIs(is_within(-7, 7, 9), False)
        self.assertIs(is_within(7, -9, -7), False)

    def test_bounds_with_nothing_between(self):
        for number in (-1, 0, 1, 2, 3, 4, 5, 6):
            self.assertIs(is_within(number, 5, 0), False)

    def test_things_of_other_kinds(self):
        for thing in OTHERS:
            for low, high in ((0, 1), (-GREAT, GREAT), (7, 7)):
                with self.subTest(thing=repr(thing), low=low, high=high):
                    self.assertIs(is_within(thing, low, high), False)

    def test_what_is_handed_in_stays_as_it_was(self):
        row, book = [1, [2]], {1: [2]}
        is_whole(row)
        is_whole(book)
        is_within(row, 0, 9)
        is_within(book, 0, 9)
        self.assertEqual(row, [1, [2]])
        self.assertEqual(book, {1: [2]})


if __name__ == "__main__":
    unittest.main()
