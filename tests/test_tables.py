import random
import unittest

from frameland.errors import OutOfRoom
from frameland.shapes import Shape
from frameland.tables import Table

GREAT = 10 ** 299 + 7


class PlainTable:
    """A dict of entries; tables and depths are reckoned from the figures of the pages alone."""

    def __init__(self, levels, fan):
        self.levels, self.ways, self.entries = levels, 2 ** fan, {}

    def ways_to(self, page):
        return [page // self.ways ** (self.levels - many) for many in range(1, self.levels)]

    def lower_tables(self):
        return {(many, way) for page in self.entries for many, way in enumerate(self.ways_to(page))}

    def depth(self, page):
        return 1 + len(self.lower_tables() & set(enumerate(self.ways_to(page))))

    def told(self):
        return sorted(self.entries.items())


class TableCase(unittest.TestCase):
    def check(self, table, plain, pages):
        self.assertEqual(table.told(), plain.told())
        self.assertEqual(table.table_count(), 1 + len(plain.lower_tables()))
        for page in pages:
            self.assertEqual(table.look(page), plain.entries.get(page))
            self.assertEqual(table.depth(page), plain.depth(page))


class EntriesTest(TableCase):
    def test_a_new_table_has_nothing_in_it(self):
        for levels, fan in ((2, 1), (3, 1), (2, 8), (3, 8)):
            table = Table(Shape(levels, fan, 0))
            last = 2 ** (levels * fan) - 1
            self.assertEqual(table.told(), [])
            self.assertEqual(table.table_count(), 1)
            for page in (0, 1, last):
                self.assertIsNone(table.look(page))
                self.assertEqual(table.depth(page), 1)

    def test_putting_looking_and_dropping_answer_as_told(self):
        table = Table(Shape(2, 2, 0))
        self.assertIsNone(table.put(5, 77))
        self.assertEqual(table.look(5), 77)
        self.assertIsNone(table.drop(5))
        self.assertIsNone(table.look(5))

    def test_an_entry_of_nought_is_an_entry(self):
        for levels in (2, 3):
            table = Table(Shape(levels, 2, 0))
            table.put(0, 0)
            self.assertEqual(table.look(0), 0)
            self.assertIsNot(table.look(0), None)
            self.assertEqual(table.told(), [(0, 0)])
            self.assertEqual(table.table_count(), levels)
            self.assertEqual(table.depth(0), levels)
            table.put(0, 8)
            table.put(0, 0)
            self.assertEqual(table.told(), [(0, 0)])
            table.drop(0)
            self.assertIsNone(table.look(0))
            self.assertEqual(table.told(), [])
            self.assertEqual(table.table_count(), 1)

    def test_putting_again_takes_the_earlier_one_s_place(self):
        table = Table(Shape(3, 2, 0))
        for entry in (1, 0, 31, GREAT, 2):
            table.put(9, entry)
            self.assertEqual(table.look(9), entry)
            self.assertEqual(table.told(), [(9, entry)])
            self.assertEqual(table.table_count(), 3)

    def test_dropping_where_there_is_none(self):
        table = Table(Shape(3, 1, 0))
        table.drop(3)
        self.assertEqual((table.told(), table.table_count()), ([], 1))
        table.put(2, 5)
        # Page 3 has the lowest table, page 1 the top one, page 7 none but the top one on their ways.
        for page in (3, 1, 7, 0):
            table.drop(page)
            self.assertEqual((table.told(), table.table_count(), table.depth(2)), ([(2, 5)], 3, 3))
        table.drop(2)
        table.drop(2)
        self.assertEqual((table.told(), table.table_count()), ([], 1))

    def test_told_by_rising_pages_as_tuples(self):
        table = Table(Shape(2, 8, 0))
        for page in (65535, 256, 3, 255, 2, 511, 257, 0):
            table.put(page, page * 32)
        pages = [0, 2, 3, 255, 256, 257, 511, 65535]
        self.assertEqual(table.told(), [(page, page * 32) for page in pages])
        self.assertTrue(all(isinstance(row, tuple) for row in table.told()))


class LevelsTest(TableCase):
    def test_two_levels_come_and_go(self):
        table = Table(Shape(2, 2, 0))
        table.put(4, 1)
        self.assertEqual(table.table_count(), 2)
        self.assertEqual([table.depth(page) for page in range(16)], [1] * 4 + [2] * 4 + [1] * 8)
        table.put(7, 1)
        self.assertEqual(table.table_count(), 2)
        table.put(8, 1)
        self.assertEqual(table.table_count(), 3)
        table.drop(4)
        self.assertEqual((table.table_count(), table.depth(4)), (3, 2))
        table.drop(7)
        self.assertEqual((table.table_count(), table.depth(4), table.depth(7)), (2, 1, 1))
        table.drop(8)
        self.assertEqual((table.table_count(), table.depth(8)), (1, 1))

    def test_three_levels_come_and_go(self):
        table = Table(Shape(3, 2, 0))
        table.put(27, 1)
        self.assertEqual(table.table_count(), 3)
        depths = [table.depth(page) for page in range(64)]
        self.assertEqual(depths, [1] * 16 + [2] * 8 + [3] * 4 + [2] * 4 + [1] * 32)
        table.put(16, 1)
        self.assertEqual((table.table_count(), table.depth(19), table.depth(20)), (4, 3, 2))
        table.put(63, 1)
        self.assertEqual(table.table_count(), 6)
        table.drop(27)
        self.assertEqual((table.table_count(), table.depth(27), table.depth(16)), (5, 2, 3))
        table.drop(16)
        self.assertEqual((table.table_count(), table.depth(27), table.depth(16)), (3, 1, 1))
        table.drop(63)
        self.assertEqual((table.table_count(), table.told()), (1, []))

    def test_all_pages_of_a_room_and_down_to_nothing_again(self):
        for levels, fan in ((2, 1), (3, 1), (2, 3), (3, 2)):
            pages = range(2 ** (levels * fan))
            table, plain = Table(Shape(levels, fan, 2)), PlainTable(levels, fan)
            for page in reversed(pages):
                table.put(page, page)
                plain.entries[page] = page
                self.check(table, plain, pages)
            for page in pages:
                table.drop(page)
                plain.entries.pop(page)
                self.check(table, plain, pages)
            self.assertEqual(table.table_count(), 1)

    def test_many_deeds(self):
        for seed, (levels, fan) in enumerate(((2, 1), (3, 1), (2, 2), (3, 2), (2, 8), (3, 8))):
            chance = random.Random(seed)
            last = 2 ** (levels * fan) - 1
            pages = sorted({chance.randint(0, last) for some in range(12)} | {0, 1, last})
            table, plain = Table(Shape(levels, fan, 0)), PlainTable(levels, fan)
            for deed in range(400):
                page = chance.choice(pages)
                if chance.random() < 0.5:
                    entry = chance.choice((0, 1, 31, 32, 10 ** 60))
                    table.put(page, entry)
                    plain.entries[page] = entry
                else:
                    table.drop(page)
                    plain.entries.pop(page, None)
                self.check(table, plain, pages)

    def test_a_room_of_millions_of_pages(self):
        # Going page by page over 16777216 pages a thousand times would not end.
        table = Table(Shape(3, 8, 4))
        pages = [16777215 - 16384 * many for many in range(1000)]
        for many, page in enumerate(pages):
            table.put(page, many)
            self.assertEqual(table.depth(page), 3)
        self.assertEqual(table.table_count(), 1 + 250 + 1000)
        self.assertEqual(table.told(), sorted((page, many) for many, page in enumerate(pages)))
        for many in range(1000):
            table.drop(pages[many])
            self.assertEqual(table.depth(0), 1)
            self.assertEqual(len(table.told()), 999 - many)
        self.assertEqual(table.table_count(), 1)


class RefusedTest(TableCase):
    def test_pages_that_the_room_does_not_have(self):
        for levels, fan in ((2, 1), (3, 1), (2, 8), (3, 8)):
            table = Table(Shape(levels, fan, 3))
            beyond = 2 ** (levels * fan)
            table.put(0, 3)
            table.put(beyond - 1, 4)
            before = (table.told(), table.table_count(), table.depth(0), table.depth(1))
            for page in (-1, -2, -beyond, beyond, beyond + 1, 2 * beyond, GREAT, -GREAT):
                for refused in (table.look, table.drop, table.depth, lambda page: table.put(page, 9)):
                    with self.subTest(levels=levels, fan=fan, page=page):
                        with self.assertRaises(OutOfRoom):
                            refused(page)
                        self.assertEqual(before, (table.told(), table.table_count(), table.depth(0), table.depth(1)))


class ApartTest(TableCase):
    def test_a_list_told_and_then_changed(self):
        table = Table(Shape(2, 2, 0))
        table.put(3, 5)
        table.put(9, 6)
        told = table.told()
        told.append((1, 1))
        told[0] = None
        self.assertEqual(table.told(), [(3, 5), (9, 6)])
        kept = table.told()
        table.drop(3)
        table.put(1, 1)
        self.assertEqual(kept, [(3, 5), (9, 6)])

    def test_telling_changes_nothing(self):
        table = Table(Shape(3, 2, 0))
        table.put(8, 5)
        for page in range(64):
            table.look(page)
            table.depth(page)
        self.assertEqual((table.told(), table.table_count()), ([(8, 5)], 3))

    def test_two_tables_beside_one_another(self):
        shape = Shape(2, 2, 0)
        one, other = Table(shape), Table(shape)
        one.put(3, 5)
        self.assertEqual((other.told(), other.table_count(), other.look(3)), ([], 1, None))
        other.put(3, 6)
        other.put(12, 7)
        self.assertEqual((one.told(), one.table_count()), ([(3, 5)], 2))
        one.drop(3)
        self.assertEqual(other.told(), [(3, 6), (12, 7)])

    def test_arguments_bear_their_names(self):
        table = Table(shape=Shape(2, 2, 0))
        table.put(entry=5, page=3)
        self.assertEqual((table.look(page=3), table.depth(page=3)), (5, 2))
        table.drop(page=3)
        self.assertEqual(table.told(), [])


if __name__ == "__main__":
    unittest.main()
