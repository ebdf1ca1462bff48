import itertools
import unittest

from frameland.rings import swept


def plainly_swept(marks, hand):
    round_trip = list(range(hand, len(marks))) + list(range(hand))
    for many, place in enumerate(round_trip):
        if not marks[place]:
            return (place, round_trip[:many])
    return (hand, round_trip)


class SweptTest(unittest.TestCase):
    def test_written_out(self):
        self.assertEqual(swept([False], 0), (0, []))
        self.assertEqual(swept([True], 0), (0, [0]))
        self.assertEqual(swept([True, False, True], 0), (1, [0]))
        self.assertEqual(swept([True, False, True], 1), (1, []))
        self.assertEqual(swept([True, False, True], 2), (1, [2, 0]))
        self.assertEqual(swept([True, True, True], 1), (1, [1, 2, 0]))
        self.assertEqual(swept([False, False, False], 2), (2, []))
        self.assertEqual(swept([False, True, True, True], 1), (0, [1, 2, 3]))

    def test_every_row_of_up_to_eight_from_every_place(self):
        for many in range(1, 9):
            for row in itertools.product((False, True), repeat=many):
                for hand in range(many):
                    self.assertEqual(swept(list(row), hand), plainly_swept(row, hand))

    def test_long_rows(self):
        for many in (63, 64, 65, 500):
            for hand in (0, 1, many // 2, many - 1):
                self.assertEqual(swept([False] * many, hand), (hand, []))
                self.assertEqual(swept([True] * many, hand), plainly_swept([True] * many, hand))
                for place in (0, 1, many // 2, many - 1):
                    one = [other == place for other in range(many)]
                    rest = [other != place for other in range(many)]
                    self.assertEqual(swept(one, hand), plainly_swept(one, hand))
                    self.assertEqual(swept(rest, hand), plainly_swept(rest, hand))

    def test_kinds(self):
        answer = swept([True, False], 0)
        self.assertIsInstance(answer, tuple)
        self.assertIsInstance(answer[1], list)

    def test_the_marks_handed_in_stay(self):
        marks = [True, True, False, True]
        for hand in range(4):
            swept(marks, hand)
            self.assertEqual(marks, [True, True, False, True])
        marks = [True, True]
        swept(marks, 1)
        self.assertEqual(marks, [True, True])

    def test_the_list_told_is_the_asker_s_own(self):
        marks = [True, True, False]
        place, passed = swept(marks, 0)
        passed.append(9)
        marks[0] = False
        self.assertEqual(passed, [0, 1, 9])
        self.assertEqual(swept([True, True, False], 0), (2, [0, 1]))

    def test_arguments_bear_their_names(self):
        self.assertEqual(swept(hand=1, marks=[False, True]), (0, [1]))


if __name__ == "__main__":
    unittest.main()
