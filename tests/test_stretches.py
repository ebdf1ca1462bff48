import itertools
import random
import unittest

from frameland.errors import BadRights, NotMapped, Taken
from frameland.stretches import Stretches

FAR = 10 ** 59 + 3  # of sixty figures
GREAT = 10 ** 299 + 7
WRONG_RIGHTS = [-1, 4, 5, -2, 8, 1000, GREAT, -GREAT, True, False, None, "1", [1]]


class PlainPages:
    """Each mapped page by itself: rights and tie; what is told is joined page by page."""

    def __init__(self):
        self.pages = {}

    def put(self, first, many, rights, tie):
        for step in range(many):
            self.pages[first + step] = (rights, None if tie is None else (tie[0], tie[1] + step))

    def cut(self, first, many):
        for page in range(first, first + many):
            self.pages.pop(page)

    def guard(self, first, many, rights):
        for page in range(first, first + many):
            self.pages[page] = (rights, self.pages[page][1])

    def told(self):
        rows = []
        for page, (rights, tie) in sorted(self.pages.items()):
            if rows:
                first, many, last_rights, first_tie = rows[-1]
                next_tie = None if first_tie is None else (first_tie[0], first_tie[1] + many)
                if first + many == page and last_rights == rights and next_tie == tie:
                    rows[-1] = (first, many + 1, rights, first_tie)
                    continue
            rows.append((page, 1, rights, tie))
        return rows


class StretchesCase(unittest.TestCase):
    def refused(self, error, stretches, deed, *handed):
        before = stretches.told()
        with self.assertRaises(error) as caught:
            getattr(stretches, deed)(*handed)
        self.assertIs(type(caught.exception), error)
        self.assertEqual(stretches.told(), before)

    def laid(self, *rows):
        stretches = Stretches()
        for row in rows:
            stretches.put(*row)
        return stretches


class PutTest(StretchesCase):
    def test_what_is_new_has_nothing_in_it(self):
        stretches = Stretches()
        self.assertEqual(stretches.told(), [])
        for page in (0, 1, FAR):
            self.assertIsNone(stretches.rights_at(page))
            self.assertIsNone(stretches.tie_at(page))
            self.assertIs(stretches.is_free(page, FAR), True)
            self.assertIs(stretches.is_full(page, 1), False)
            self.assertIs(stretches.is_tied(page), False)

    def test_deeds_answer_nothing(self):
        stretches = Stretches()
        self.assertIsNone(stretches.put(2, 3, 1))
        self.assertIsNone(stretches.guard(2, 3, 2))
        self.assertIsNone(stretches.cut(2, 3))

    def test_every_rights(self):
        for rights in range(4):
            stretches = self.laid((4, 2, rights), (9, 1, rights, (0, 0)))
            self.assertEqual(stretches.told(), [(4, 2, rights, None), (9, 1, rights, (0, 0))])
            found = [stretches.rights_at(page) for page in (3, 4, 5, 6, 9)]
            self.assertEqual(found, [None, rights, rights, None, rights])

    def test_the_ends_and_beside_them(self):
        for first, many in ((0, 1), (5, 1), (5, 7), (FAR, FAR), (FAR, 1), (0, FAR), (GREAT, GREAT)):
            stretches = self.laid((first, many, 3, (7, FAR)))
            last = first + many - 1
            self.assertEqual(stretches.told(), [(first, many, 3, (7, FAR))])
            self.assertEqual((stretches.rights_at(first), stretches.tie_at(first)), (3, (7, FAR)))
            self.assertEqual((stretches.rights_at(last), stretches.tie_at(last)), (3, (7, FAR + many - 1)))
            middle = first + many // 2
            if many > 1:
                self.assertEqual((stretches.rights_at(middle), stretches.tie_at(middle)), (3, (7, FAR + many // 2)))
            for page in [last + 1, last + FAR] + ([first - 1] if first > 0 else []):
                self.assertIsNone(stretches.rights_at(page))
                self.assertIsNone(stretches.tie_at(page))

    def test_private_and_tied(self):
        stretches = self.laid((10, 5, 1), (15, 5, 1, (2, 30)))
        self.assertEqual([stretches.tie_at(page) for page in (9, 10, 14, 15, 16, 19, 20)],
                         [None, None, None, (2, 30), (2, 31), (2, 34), None])
        self.assertIsInstance(stretches.tie_at(16), tuple)
        self.assertIs(stretches.is_tied(2), True)
        for bank in (0, 1, 3, 30, FAR):
            self.assertIs(stretches.is_tied(bank), False)

    def test_taken_where_one_page_is_mapped(self):
        for far in (0, FAR):
            stretches = self.laid((far + 10, 5, 1), (far + 20, 1, 2, (0, 0)))
            for first, many in ((10, 5), (10, 1), (14, 1), (12, 1), (8, 3), (14, 2), (0, 100), (9, 7), (20, 1),
                                (15, 6), (20, 5), (16, 5), (0, 11)):
                self.refused(Taken, stretches, "put", far + first, many, 1)
                self.refused(Taken, stretches, "put", far + first, many, 0, (3, 4))
            self.refused(Taken, stretches, "put", far, FAR, 3)
            stretches.put(far + 15, 5, 3)
            stretches.put(far + 8, 2, 3)
            stretches.put(far + 21, FAR, 3)
            self.assertEqual(stretches.told(), [
                (far + 8, 2, 3, None), (far + 10, 5, 1, None), (far + 15, 5, 3, None), (far + 20, 1, 2, (0, 0)),
                (far + 21, FAR, 3, None),
            ])

    def test_rights_that_are_none_ahead_of_taken(self):
        stretches = self.laid((10, 5, 1))
        for rights in WRONG_RIGHTS:
            with self.subTest(rights=rights):
                self.refused(BadRights, stretches, "put", 20, 1, rights)
                self.refused(BadRights, stretches, "put", 20, 1, rights, (0, 0))
                self.refused(BadRights, stretches, "put", 10, 1, rights)
                self.refused(BadRights, stretches, "put", 10, 1, rights, (0, 0))


class CutTest(StretchesCase):
    def test_the_whole_a_part_at_either_end_amid_and_one_page(self):
        for far in (0, FAR):
            for tie in (None, (4, FAR)):
                def row(first, many):
                    return (far + first, many, 2, None if tie is None else (4, FAR + first - 10))
                for first, many, left in (
                    (10, 6, []), (10, 2, [row(12, 4)]), (10, 1, [row(11, 5)]), (13, 3, [row(10, 3)]),
                    (15, 1, [row(10, 5)]), (12, 2, [row(10, 2), row(14, 2)]), (12, 1, [row(10, 2), row(13, 3)]),
                ):
                    stretches = self.laid((far + 10, 6, 2, tie))
                    stretches.cut(far + first, many)
                    self.assertEqual(stretches.told(), left)
                    for page in range(first, first + many):
                        self.assertIsNone(stretches.rights_at(far + page))

    def test_numbers_of_sixty_figures(self):
        stretches = self.laid((FAR, 8 * FAR, 1, (FAR, FAR)))
        stretches.cut(3 * FAR, FAR)
        self.assertEqual(stretches.told(), [(FAR, 2 * FAR, 1, (FAR, FAR)), (4 * FAR, 5 * FAR, 1, (FAR, 4 * FAR))])
        self.assertIs(stretches.is_free(3 * FAR, FAR), True)
        self.assertIs(stretches.is_full(4 * FAR, 5 * FAR), True)
        self.assertIs(stretches.is_full(4 * FAR, 5 * FAR + 1), False)
        stretches.put(3 * FAR, FAR, 1, (FAR, 3 * FAR))
        self.assertEqual(stretches.told(), [(FAR, 8 * FAR, 1, (FAR, FAR))])

    def test_over_several_stretches_at_once(self):
        stretches = self.laid((0, 4, 1), (4, 4, 2), (8, 4, 3, (0, 0)), (12, 4, 3, (1, 0)))
        stretches.cut(2, 11)
        self.assertEqual(stretches.told(), [(0, 2, 1, None), (13, 3, 3, (1, 1))])

    def test_not_mapped_where_one_page_is_not(self):
        for far in (0, FAR):
            stretches = self.laid((far + 10, 5, 1), (far + 16, 2, 1))
            for first, many in ((9, 1), (9, 2), (15, 1), (14, 2), (10, 6), (10, 8), (9, 6), (16, 3), (100, 1), (18, 1)):
                self.refused(NotMapped, stretches, "cut", far + first, many)
                self.refused(NotMapped, stretches, "guard", far + first, many, 3)
            self.refused(NotMapped, stretches, "cut", far + 10, FAR)
        self.refused(NotMapped, Stretches(), "cut", 0, 1)
        self.refused(NotMapped, Stretches(), "guard", 0, 1, 0)

    def test_tied_to_a_bank_until_the_last_page_is_cut(self):
        stretches = self.laid((0, 3, 1, (5, 7)), (9, 1, 0, (5, 0)), (10, 1, 1, (6, 0)))
        stretches.cut(0, 1)
        stretches.cut(2, 1)
        self.assertIs(stretches.is_tied(5), True)
        stretches.cut(9, 1)
        self.assertIs(stretches.is_tied(5), True)
        stretches.cut(1, 1)
        self.assertIs(stretches.is_tied(5), False)
        self.assertIs(stretches.is_tied(6), True)


class GuardTest(StretchesCase):
    def test_the_whole_a_part_at_either_end_amid_and_one_page(self):
        for far in (0, FAR):
            for tie in (None, (4, FAR)):
                def row(first, many, rights):
                    return (far + first, many, rights, None if tie is None else (4, FAR + first - 10))
                for first, many, left in (
                    (10, 6, [row(10, 6, 1)]), (10, 2, [row(10, 2, 1), row(12, 4, 2)]),
                    (10, 1, [row(10, 1, 1), row(11, 5, 2)]), (13, 3, [row(10, 3, 2), row(13, 3, 1)]),
                    (15, 1, [row(10, 5, 2), row(15, 1, 1)]), (12, 2, [row(10, 2, 2), row(12, 2, 1), row(14, 2, 2)]),
                    (12, 1, [row(10, 2, 2), row(12, 1, 1), row(13, 3, 2)]),
                ):
                    stretches = self.laid((far + 10, 6, 2, tie))
                    stretches.guard(far + first, many, 1)
                    self.assertEqual(stretches.told(), left)
                    stretches.guard(far + first, many, 2)
                    self.assertEqual(stretches.told(), [row(10, 6, 2)])

    def test_the_same_rights_change_nothing(self):
        stretches = self.laid((0, 4, 1), (4, 4, 1, (0, 0)), (9, 1, 1))
        before = stretches.told()
        stretches.guard(1, 5, 1)
        self.assertEqual(stretches.told(), before)

    def test_over_several_stretches_at_once_ties_stay(self):
        stretches = self.laid((0, 4, 1), (4, 4, 2), (8, 4, 3, (0, 5)), (12, 4, 0, (0, 9)), (16, 2, 0, (1, 0)))
        stretches.guard(2, 15, 2)
        self.assertEqual(stretches.told(), [
            (0, 2, 1, None), (2, 6, 2, None), (8, 8, 2, (0, 5)), (16, 1, 2, (1, 0)), (17, 1, 0, (1, 1)),
        ])

    def test_rights_that_are_none_ahead_of_not_mapped(self):
        stretches = self.laid((10, 5, 1))
        for rights in WRONG_RIGHTS:
            with self.subTest(rights=rights):
                self.refused(BadRights, stretches, "guard", 10, 5, rights)
                self.refused(BadRights, stretches, "guard", 10, 6, rights)
                self.refused(BadRights, stretches, "guard", 100, 1, rights)


class ToldTest(StretchesCase):
    def check_pair(self, one, other, told):
        for rows in ((one, other), (other, one)):
            for far in (0, FAR):
                stretches = self.laid(*[(row[0] + far,) + row[1:] for row in rows])
                self.assertEqual(stretches.told(), [(row[0] + far,) + row[1:] for row in told])

    def test_neighbours_told_as_one(self):
        self.check_pair((3, 2, 1), (5, 4, 1), [(3, 6, 1, None)])
        self.check_pair((3, 2, 0), (5, 4, 0), [(3, 6, 0, None)])
        self.check_pair((3, 2, 1, (0, 0)), (5, 4, 1, (0, 2)), [(3, 6, 1, (0, 0))])
        self.check_pair((3, 2, 1, (8, FAR)), (5, 4, 1, (8, FAR + 2)), [(3, 6, 1, (8, FAR))])

    def test_neighbours_told_by_themselves(self):
        for one, other in (
            ((3, 2, 1, None), (5, 4, 2, None)), ((3, 2, 1, None), (6, 4, 1, None)),
            ((3, 2, 1, None), (5, 4, 1, (0, 2))), ((3, 2, 1, (0, 0)), (5, 4, 1, None)),
            ((3, 2, 1, (0, 0)), (5, 4, 2, (0, 2))), ((3, 2, 1, (0, 0)), (5, 4, 1, (1, 2))),
            ((3, 2, 1, (0, 0)), (5, 4, 1, (0, 1))), ((3, 2, 1, (0, 0)), (5, 4, 1, (0, 3))),
            ((3, 2, 1, (0, 0)), (5, 4, 1, (0, 0))), ((3, 2, 1, (0, 0)), (6, 4, 1, (0, 2))),
            ((3, 2, 1, (0, 0)), (6, 4, 1, (0, 3))), ((3, 2, 1, (0, 4)), (5, 4, 1, (0, 2))),
        ):
            self.check_pair(one, other, [one, other])

    def test_a_gap_filled_joins_both_sides(self):
        stretches = self.laid((0, 2, 1), (4, 2, 1), (2, 2, 1))
        self.assertEqual(stretches.told(), [(0, 6, 1, None)])
        stretches = self.laid((0, 2, 1, (3, 0)), (4, 2, 1, (3, 4)), (2, 2, 1, (3, 2)))
        self.assertEqual(stretches.told(), [(0, 6, 1, (3, 0))])
        stretches = self.laid((0, 2, 1, (3, 0)), (4, 2, 1, (3, 9)), (2, 2, 1, (3, 2)))
        self.assertEqual(stretches.told(), [(0, 4, 1, (3, 0)), (4, 2, 1, (3, 9))])

    def test_by_rising_first_pages_as_tuples(self):
        stretches = self.laid((30, 1, 1), (10, 1, 2), (FAR, 1, 0), (20, 1, 3, (0, 0)), (0, 1, 1))
        self.assertEqual([row[0] for row in stretches.told()], [0, 10, 20, 30, FAR])
        self.assertTrue(all(isinstance(row, tuple) for row in stretches.told()))

    def test_free_and_full(self):
        for far in (0, FAR):
            stretches = self.laid((far + 5, 3, 1), (far + 8, 2, 2), (far + 12, 1, 0, (0, 0)))
            mapped = {5, 6, 7, 8, 9, 12}
            for first, many in itertools.product(range(0, 16), range(1, 17)):
                pages = set(range(first, first + many))
                self.assertIs(stretches.is_free(far + first, many), not pages & mapped)
                self.assertIs(stretches.is_full(far + first, many), pages <= mapped)
            self.assertIs(stretches.is_free(far + 13, GREAT), True)
            self.assertIs(stretches.is_free(far + 12, GREAT), False)
            self.assertIs(stretches.is_full(far + 5, GREAT), False)

    def test_many_deeds_as_page_by_page(self):
        for seed in range(12):
            chance = random.Random(seed)
            stretches, plain = Stretches(), PlainPages()
            wide = chance.choice((8, 20, 40))
            for deed in range(300):
                self.do_one(chance, wide, stretches, plain)
                self.assertEqual(stretches.told(), plain.told())
                page = chance.randrange(wide + 3)
                found = (stretches.rights_at(page), stretches.tie_at(page))
                self.assertEqual(found, plain.pages.get(page, (None, None)))
                for bank in range(3):
                    tied = any(tie is not None and tie[0] == bank for rights, tie in plain.pages.values())
                    self.assertIs(stretches.is_tied(bank), tied)

    def do_one(self, chance, wide, stretches, plain):
        first, many, rights = chance.randrange(wide), chance.randint(1, 6), chance.randrange(4)
        mapped = [page in plain.pages for page in range(first, first + many)]
        kind = chance.choice(("put", "put", "cut", "guard"))
        if kind == "put":
            tie = chance.choice((None, (0, first), (1, first), (0, chance.randrange(9))))
            if any(mapped):
                self.refused(Taken, stretches, "put", first, many, rights, tie)
            else:
                stretches.put(first, many, rights, tie)
                plain.put(first, many, rights, tie)
        elif not all(mapped):
            handed = (first, many) if kind == "cut" else (first, many, rights)
            self.refused(NotMapped, stretches, kind, *handed)
        elif kind == "cut":
            stretches.cut(first, many)
            plain.cut(first, many)
        else:
            stretches.guard(first, many, rights)
            plain.guard(first, many, rights)


class ApartTest(StretchesCase):
    def test_a_list_told_and_then_changed(self):
        stretches = self.laid((0, 2, 1), (5, 2, 1, (0, 0)))
        told = stretches.told()
        told.append((9, 1, 1, None))
        told[0] = None
        self.assertEqual(stretches.told(), [(0, 2, 1, None), (5, 2, 1, (0, 0))])
        kept = stretches.told()
        stretches.cut(0, 2)
        self.assertEqual(kept, [(0, 2, 1, None), (5, 2, 1, (0, 0))])

    def test_a_copy_changed_on_either_side(self):
        one = self.laid((0, 4, 1), (5, 2, 1, (0, 0)))
        before = one.told()
        other = one.copied()
        self.assertIsInstance(other, Stretches)
        self.assertEqual(other.told(), before)
        self.assertEqual([other.tie_at(page) for page in (4, 5, 6)], [None, (0, 0), (0, 1)])
        other.cut(1, 2)
        other.guard(5, 1, 3)
        other.put(20, 1, 2, (7, 7))
        self.assertEqual(one.told(), before)
        self.assertIs(one.is_tied(7), False)
        changed = other.told()
        self.assertEqual(changed, [
            (0, 1, 1, None), (3, 1, 1, None), (5, 1, 3, (0, 0)), (6, 1, 1, (0, 1)), (20, 1, 2, (7, 7)),
        ])
        one.cut(0, 4)
        one.put(1, 1, 0)
        self.assertEqual(other.told(), changed)
        self.assertEqual(one.copied().told(), one.told())

    def test_a_copy_of_nothing(self):
        one = Stretches()
        other = one.copied()
        one.put(0, 1, 1)
        self.assertEqual(other.told(), [])

    def test_two_beside_one_another(self):
        one, other = Stretches(), Stretches()
        one.put(0, 1, 1)
        self.assertEqual(other.told(), [])
        other.put(0, 1, 2, (0, 0))
        self.assertEqual((one.told(), one.is_tied(0)), ([(0, 1, 1, None)], False))

    def test_arguments_bear_their_names(self):
        stretches = Stretches()
        stretches.put(tie=(3, 4), rights=1, many=2, first=5)
        stretches.guard(rights=2, many=1, first=5)
        stretches.cut(many=1, first=6)
        self.assertEqual(stretches.told(), [(5, 1, 2, (3, 4))])
        self.assertEqual((stretches.rights_at(page=5), stretches.tie_at(page=5)), (2, (3, 4)))
        self.assertIs(stretches.is_free(many=5, first=0), True)
        self.assertIs(stretches.is_full(many=1, first=5), True)
        self.assertIs(stretches.is_tied(bank=3), True)


if __name__ == "__main__":
    unittest.main()
