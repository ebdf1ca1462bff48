import itertools
import unittest

from frameland import bits

NAMES = ["READ", "WRITE", "KEPT", "SEEN", "CHANGED"]
PLACES = [0, 1, 2, 31, 32, 33, 63, 64, 1000, 10 ** 60 + 7, 10 ** 297 + 11]
SUMS = range(32)


class BitsTest(unittest.TestCase):
    def test_the_five_names(self):
        self.assertEqual([getattr(bits, name) for name in NAMES], [1, 2, 4, 8, 16])

    def test_an_entry_and_its_parts(self):
        for place, some in itertools.product(PLACES, SUMS):
            entry = bits.entry_of(place, some)
            self.assertEqual(entry, 32 * place + some)
            self.assertEqual(bits.place_of(entry), place)
            self.assertEqual(bits.bits_of(entry), some)

    def test_entries_that_are_written_out(self):
        self.assertEqual(bits.entry_of(0, 0), 0)
        self.assertEqual(bits.entry_of(0, 31), 31)
        self.assertEqual(bits.entry_of(3, 5), 101)
        self.assertEqual((bits.place_of(101), bits.bits_of(101)), (3, 5))
        self.assertEqual((bits.place_of(0), bits.bits_of(0)), (0, 0))
        self.assertEqual((bits.place_of(31), bits.bits_of(31)), (0, 31))
        self.assertEqual((bits.place_of(32), bits.bits_of(32)), (1, 0))

    def test_which_bits_an_entry_has(self):
        for place, some, asked in itertools.product(PLACES, SUMS, SUMS):
            singles = [bit for bit in (1, 2, 4, 8, 16) if asked // bit % 2 == 1]
            has_all = all(some // bit % 2 == 1 for bit in singles)
            self.assertIs(bits.has_bits(32 * place + some, asked), has_all)

    def test_bits_given_and_taken(self):
        for place, some, other in itertools.product(PLACES, SUMS, SUMS):
            given, left = 0, 0
            for bit in (1, 2, 4, 8, 16):
                in_some, in_other = some // bit % 2 == 1, other // bit % 2 == 1
                given += bit if in_some or in_other else 0
                left += bit if in_some and not in_other else 0
            self.assertEqual(bits.with_bits(32 * place + some, other), 32 * place + given)
            self.assertEqual(bits.without_bits(32 * place + some, other), 32 * place + left)

    def test_arguments_bear_their_names(self):
        self.assertEqual(bits.entry_of(bits=3, place=2), 67)
        self.assertEqual(bits.place_of(entry=67), 2)
        self.assertEqual(bits.bits_of(entry=67), 3)
        self.assertIs(bits.has_bits(bits=2, entry=67), True)
        self.assertEqual(bits.with_bits(bits=4, entry=67), 71)
        self.assertEqual(bits.without_bits(bits=1, entry=67), 66)


if __name__ == "__main__":
    unittest.main()
