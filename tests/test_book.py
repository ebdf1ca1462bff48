import random
import unittest

from frameland.book import Book
from tests.plain import PlainBook

FAR = 10 ** 59 + 3


def filled(many):
    """A full book of task 0, its pages and entries 100 and onward by places."""
    book = Book(many)
    for page in range(many):
        book.keep(0, page, 100 + page)
    return book


class EmptyTest(unittest.TestCase):
    def test_a_new_book_has_nothing_in_it(self):
        for many in (0, 1, 2, 64):
            book = Book(many)
            self.assertEqual(book.told(), [None] * many)
            self.assertIsNone(book.look(0, 0))

    def test_a_book_of_no_places_keeps_nothing(self):
        book = Book(0)
        for page in range(3):
            self.assertIsNone(book.keep(0, page, 7))
            self.assertEqual((book.told(), book.look(0, page)), ([], None))
            book.use(0, page)
            book.strike(0, page)
            book.strike_task(0)
        self.assertEqual(book.told(), [])

    def test_where_there_is_no_row(self):
        book = filled(2)
        book.use(0, 1)
        before = book.told()
        for task, page in ((0, 2), (1, 0), (1, 1), (FAR, 0), (0, FAR), (2, 0)):
            self.assertIsNone(book.look(task, page))
            self.assertIsNone(book.use(task, page))
            self.assertIsNone(book.strike(task, page))
            self.assertEqual(book.told(), before)
        self.assertIsNone(book.strike_task(1))
        self.assertEqual(book.told(), before)


class KeepTest(unittest.TestCase):
    def test_the_first_empty_place(self):
        book = Book(3)
        book.keep(5, 7, 0)
        self.assertEqual(book.told(), [(5, 7, 0, False), None, None])
        book.keep(FAR, FAR + 1, FAR + 2)
        self.assertEqual(book.told(), [(5, 7, 0, False), (FAR, FAR + 1, FAR + 2, False), None])
        self.assertEqual((book.look(5, 7), book.look(FAR, FAR + 1), book.look(7, 5)), (0, FAR + 2, None))

    def test_keeping_anew_leaves_whether_it_was_used(self):
        book = filled(3)
        book.use(0, 1)
        book.keep(0, 1, 7)
        book.keep(0, 2, 8)
        self.assertEqual(book.told(), [(0, 0, 100, False), (0, 1, 7, True), (0, 2, 8, False)])
        self.assertEqual((book.look(0, 1), book.look(0, 2)), (7, 8))
        # The hand did not go: the next new row takes place 0.
        book.keep(1, 0, 9)
        self.assertEqual(book.told(), [(1, 0, 9, False), (0, 1, 7, True), (0, 2, 8, False)])

    def test_looking_changes_nothing_and_using_marks(self):
        book = filled(2)
        self.assertEqual(book.look(0, 0), 100)
        self.assertEqual(book.told(), [(0, 0, 100, False), (0, 1, 101, False)])
        self.assertIsNone(book.use(0, 0))
        self.assertEqual(book.told(), [(0, 0, 100, True), (0, 1, 101, False)])
        self.assertIs(book.told()[0][3], True)
        self.assertIs(book.told()[1][3], False)
        book.use(0, 0)
        self.assertEqual(book.told(), [(0, 0, 100, True), (0, 1, 101, False)])

    def test_a_full_book_of_one_place(self):
        book = filled(1)
        book.keep(1, 0, 5)
        self.assertEqual((book.told(), book.look(0, 0)), ([(1, 0, 5, False)], None))
        book.use(1, 0)
        book.keep(2, 0, 6)
        self.assertEqual((book.told(), book.look(1, 0)), ([(2, 0, 6, False)], None))

    def test_the_hand_goes_round_a_full_book(self):
        book = filled(3)
        places = []
        for page in range(10, 17):
            book.keep(1, page, page)
            places.append(book.told().index((1, page, page, False)))
        self.assertEqual(places, [0, 1, 2, 0, 1, 2, 0])

    def test_rows_passed_are_not_used_any_more(self):
        book = filled(4)
        for page in (0, 1, 3):
            book.use(0, page)
        book.keep(1, 0, 7)
        self.assertEqual(book.told(), [(0, 0, 100, False), (0, 1, 101, False), (1, 0, 7, False), (0, 3, 103, True)])
        # The hand stands at 3, passes it, and chooses 0.
        book.keep(1, 1, 8)
        self.assertEqual(book.told(), [(1, 1, 8, False), (0, 1, 101, False), (1, 0, 7, False), (0, 3, 103, False)])
        self.assertIsNone(book.look(0, 0))

    def test_all_used(self):
        book = filled(3)
        book.keep(1, 0, 7)
        for task, page in ((1, 0), (0, 1), (0, 2)):
            book.use(task, page)
        book.keep(1, 1, 8)
        self.assertEqual(book.told(), [(1, 0, 7, False), (1, 1, 8, False), (0, 2, 102, False)])
        book.keep(1, 2, 9)
        self.assertEqual(book.told(), [(1, 0, 7, False), (1, 1, 8, False), (1, 2, 9, False)])
        book.keep(1, 3, 9)
        self.assertEqual(book.told(), [(1, 3, 9, False), (1, 1, 8, False), (1, 2, 9, False)])


class StrikeTest(unittest.TestCase):
    def test_one_row(self):
        book = filled(3)
        self.assertIsNone(book.strike(0, 1))
        self.assertEqual(book.told(), [(0, 0, 100, False), None, (0, 2, 102, False)])
        self.assertIsNone(book.look(0, 1))
        book.keep(0, 9, 5)
        self.assertEqual(book.told(), [(0, 0, 100, False), (0, 9, 5, False), (0, 2, 102, False)])

    def test_a_row_struck_is_kept_as_a_new_one(self):
        book = filled(2)
        book.use(0, 1)
        book.strike(0, 1)
        book.strike(0, 0)
        book.keep(0, 1, 7)
        self.assertEqual(book.told(), [(0, 1, 7, False), None])

    def test_all_rows_of_a_task(self):
        book = Book(5)
        for task, page in ((0, 4), (1, 4), (0, 5), (2, 0), (0, 0)):
            book.keep(task, page, 9)
        self.assertIsNone(book.strike_task(0))
        self.assertEqual(book.told(), [None, (1, 4, 9, False), None, (2, 0, 9, False), None])
        book.keep(0, 4, 8)
        book.keep(3, 3, 7)
        self.assertEqual(book.told(), [(0, 4, 8, False), (1, 4, 9, False), (3, 3, 7, False), (2, 0, 9, False), None])

    def test_the_hand_stays(self):
        book = filled(3)
        book.keep(1, 0, 7)
        book.strike(0, 1)
        book.strike_task(1)
        book.keep(1, 1, 8)
        book.keep(1, 2, 9)
        self.assertEqual(book.told(), [(1, 1, 8, False), (1, 2, 9, False), (0, 2, 102, False)])
        # The hand still stands at 1, where it was ahead of the strikes.
        book.keep(1, 3, 6)
        self.assertEqual(book.told(), [(1, 1, 8, False), (1, 3, 6, False), (0, 2, 102, False)])


class WholeTest(unittest.TestCase):
    def test_many_deeds_as_the_plain_book(self):
        for seed in range(20):
            chance = random.Random(seed)
            many = chance.choice((0, 1, 2, 3, 5, 8, 64))
            book, plain = Book(many), PlainBook(many)
            for deed in range(400):
                task, page, entry = chance.randrange(3), chance.randrange(max(3, many // 2)), chance.randrange(100)
                kind = chance.choice(("keep", "keep", "keep", "use", "use", "strike", "strike_task"))
                if kind == "strike_task" and chance.random() < 0.7:
                    continue
                handed = {"keep": (task, page, entry), "strike_task": (task,)}.get(kind, (task, page))
                getattr(book, kind)(*handed)
                getattr(plain, kind)(*handed)
                self.assertEqual(book.told(), plain.told())
                self.assertEqual(book.look(task, page), plain.look(task, page))

    def test_a_list_told_and_then_changed(self):
        book = filled(2)
        told = book.told()
        self.assertIsInstance(told[0], tuple)
        told[0] = None
        told.append(5)
        self.assertEqual(book.told(), [(0, 0, 100, False), (0, 1, 101, False)])
        kept = book.told()
        book.use(0, 0)
        book.strike(0, 1)
        self.assertEqual(kept, [(0, 0, 100, False), (0, 1, 101, False)])

    def test_two_books_beside_one_another(self):
        one, other = filled(2), Book(2)
        self.assertEqual(other.told(), [None, None])
        other.keep(0, 0, 5)
        other.use(0, 0)
        one.strike_task(0)
        self.assertEqual((one.told(), other.told()), ([None, None], [(0, 0, 5, True), None]))

    def test_arguments_bear_their_names(self):
        book = Book(many=1)
        book.keep(entry=3, page=2, task=1)
        book.use(page=2, task=1)
        self.assertEqual((book.look(page=2, task=1), book.told()), (3, [(1, 2, 3, True)]))
        book.strike(page=2, task=1)
        book.keep(1, 2, 3)
        book.strike_task(task=1)
        self.assertEqual(book.told(), [None])


if __name__ == "__main__":
    unittest.main()
