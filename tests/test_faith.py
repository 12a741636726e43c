"""Points 2 and 18 and the interface's section of loveboon/faith.py."""

import copy
import itertools
import unittest

from loveboon.faith import begins, begun, lost, without
from loveboon.rounds import greatest, least
from tests.books import BOOKS, CHAIN, KNOT, LAID, TIED, Look, chain, crowds_of, nobody, renumbered, rings, so_many
from tests.looks import FREE, due_at, is_above

SMALL = LAID + TIED + [pair for pair in BOOKS if len(pair[1]) < 4][:40]


class BegunTest(unittest.TestCase):
    def test_written_ones(self):
        self.assertEqual(begun(KNOT, (0, 0), []), (0, 0))
        self.assertEqual(begun(KNOT, (0, 0), [0]), (2, 2))
        self.assertEqual(begun(KNOT, (0, 0), [1]), (2, 2))
        self.assertEqual(begun(KNOT, (0, 0), [0, 1]), (2, 2))
        self.assertEqual(begun(rings(4, (0, 2), (1, 3)), (0,) * 4, [2]), (2, 0, 2, 0))
        self.assertEqual(begun(rings(4, (0, 2), (1, 3)), (0, 1, 0, 0), [0, 2]), (2, 1, 2, 0))
        self.assertEqual(begun(so_many(4, 2), (0,) * 4, [3]), (0, 0, 0, 1))
        self.assertEqual(begun(so_many(4, 2), (0,) * 4, [0, 3]), (1, 1, 1, 1))

    def test_who_can_give_no_more_brings_nothing(self):
        self.assertEqual(begun(CHAIN, (0, 0, 0), [2]), (2, 1, 0))
        self.assertEqual(begun(nobody(2), (3, 0), [0, 1]), (3, 0))

    def test_steps_of_the_greatest_giving_and_no_others(self):
        # 0 would give 9, but for 3 of 1, who gives at most 2.
        book = [[((2, ("gives", 1, 2)), (9, ("gives", 1, 3)))], [((2, ("gives", 0, 1)),)]]
        self.assertEqual(begun(book, (0, 0), [0]), (2, 2))
        self.assertEqual(begun(book, (1, 0), []), (2, 2))

    def test_every_crowd_by_a_look_at_all_givings(self):
        for book, floor in SMALL:
            look = Look(book, floor)
            for crowd in look.crowds:
                told = begun(book, floor, crowd)
                self.assertIs(type(told), tuple)
                self.assertEqual(told, look.begun(crowd), (book, floor, crowd))
            self.assertEqual(begun(book, floor, []), least(book, floor))
            self.assertEqual(begun(book, floor, list(range(len(floor)))), greatest(book, floor))

    def test_nine_to_twelve_folk(self):
        for many in range(9, 13):
            book = so_many(many, 4, 9)
            self.assertEqual(begun(book, (0,) * many, [0, 3, many - 1]),
                             tuple(9 if one in (0, 3, many - 1) else 0 for one in range(many)))
            self.assertEqual(begun(book, (0,) * many, [0, 3, 5, many - 1]), (9,) * many)
            self.assertEqual(begun(book, (0,) * many, list(range(many))), (9,) * many)


class BeginsTest(unittest.TestCase):
    def test_none_where_the_sure_giving_is_the_greatest(self):
        self.assertEqual(begins(CHAIN, (0, 0, 0)), [])
        self.assertEqual(begins(nobody(1), (0,)), [])
        self.assertEqual(begins(nobody(12), (9,) * 12), [])
        self.assertEqual(begins(chain(12), (0,) * 12), [])
        self.assertEqual(begins(KNOT, (2, 0)), [])

    def test_the_first_of_several_as_small(self):
        self.assertEqual(begins(KNOT, (0, 0)), [0])
        self.assertEqual(begins(rings(4, (0, 2), (1, 3)), (0,) * 4), [0, 1])
        self.assertEqual(begins(rings(5, (4, 2), (1, 3)), (0,) * 5), [1, 2])
        # 0 alone brings less than 2 alone, on whom both hang.
        book = [[((1, ("gives", 2, 1)),)], [((1, ("gives", 2, 1)),)],
                [((1, ("all", (("gives", 0, 1), ("gives", 1, 1)))),)]]
        self.assertEqual(begins(book, (0, 0, 0)), [2])
        self.assertEqual(begins(book, (1, 0, 0)), [1])

    def test_fewer_ahead_of_the_first_in_order(self):
        # 0 and 1 bring all, and so does 5 alone.
        book = so_many(6, 2)
        for one in range(5):
            book[one].append(((1, ("gives", 5, 1)),))
        self.assertEqual(begins(book, (0,) * 6), [5])
        book[0].clear()
        self.assertEqual(begins(book, (0,) * 6), [5])

    def test_by_a_look_at_all_crowds(self):
        lengths = set()
        for book, floor in SMALL:
            told = begins(book, floor)
            self.assertIs(type(told), list)
            self.assertEqual(told, Look(book, floor).begins(), (book, floor))
            lengths.add(len(told))
        self.assertGreaterEqual(lengths, {0, 1, 2, 3})

    def test_rings(self):
        for many in range(2, 5):
            for crowd in itertools.permutations(range(1, many + 1)):
                self.assertEqual(begins(rings(many + 1, crowd), (0,) * (many + 1)), [1])
        self.assertEqual(begins(rings(9, (2, 1), (8, 6), (3, 7, 5, 4)), (0,) * 9), [1, 3, 6])

    def test_a_ring_in_which_somebody_gives_freely(self):
        for free in range(3):
            book = rings(5, (0, 1, 2), (3, 4))
            book[free].append(((2, FREE),))
            self.assertEqual(begins(book, (0,) * 5), [3])

    def test_so_many_of_the_others(self):
        for many in range(2, 13):
            for needed in range(1, many):
                self.assertEqual(begins(so_many(many, needed), (0,) * many), list(range(needed)))

    def test_nine_to_twelve_folk(self):
        for many in range(9, 13):
            book = rings(many, (0, 5), (1, 6, 2), (3, 8))
            self.assertEqual(begins(book, (0,) * many), [0, 1, 3])
            book[4].append(((3, ("crowd", (0, 1, 2, 3, 5, 6, 8), 2, 7)),))
            for one in (0, 1, 3):
                book[one].append(((2, ("gives", 4, 3)),))
            self.assertEqual(begins(book, (0,) * many), [4])
            self.assertEqual(begins(book, (1,) * many), [4])

    def test_pairs_of_twelve(self):
        self.assertEqual(begins(rings(12, *[(one, 11 - one) for one in range(6)]), (0,) * 12), [0, 1, 2, 3, 4, 5])
        self.assertEqual(begins(rings(12, *[(2 * at, 2 * at + 1) for at in range(6)]), (0,) * 12), [0, 2, 4, 6, 8, 10])

    def test_renumbered_ones_need_as_many(self):
        for book, floor in SMALL[:30]:
            for row in itertools.permutations(range(len(floor))):
                there, lies = renumbered(book, floor, row)
                told = begins(there, lies)
                self.assertEqual(len(told), len(begins(book, floor)))
                self.assertEqual(begun(there, lies, told), greatest(there, lies))


class WithoutTest(unittest.TestCase):
    def test_written_ones(self):
        self.assertEqual(without(CHAIN, (0, 0, 0), 0), (0, 0, 0))
        self.assertEqual(without(CHAIN, (0, 0, 0), 1), (1, 0, 0))
        self.assertEqual(without(CHAIN, (0, 0, 0), 2), (2, 1, 0))
        self.assertEqual(without(CHAIN, (0, 0, 2), 0), (0, 3, 2))
        self.assertEqual(lost(CHAIN, (0, 0, 0), 0), [1])
        self.assertEqual(lost(CHAIN, (0, 0, 0), 1), [0])
        self.assertEqual(lost(CHAIN, (0, 0, 0), 2), [])
        self.assertEqual(lost(CHAIN, (0, 0, 2), 0), [])

    def test_what_lies_there_stays(self):
        self.assertEqual(without(KNOT, (2, 0), 0), (2, 2))
        self.assertEqual(without(KNOT, (2, 0), 1), (2, 0))
        self.assertEqual(without(KNOT, (2, 2), 1), (2, 2))
        self.assertEqual(lost(KNOT, (2, 2), 1), [])

    def test_rings(self):
        book = rings(5, (0, 3), (1, 4, 2))
        for one in range(5):
            left = (0, 2, 2, 0, 2) if one in (0, 3) else (2, 0, 0, 2, 0)
            self.assertEqual(without(book, (0,) * 5, one), left)
            self.assertEqual(lost(book, (0,) * 5, one), [
                other for other in range(5) if left[other] == 0 and other != one
            ])

    def test_each_one_by_a_look_at_all_givings(self):
        several = 0
        for book, floor in SMALL:
            whole = Look(book, floor).whole
            for one in range(len(floor)):
                emptied = [pledges if other != one else [] for other, pledges in enumerate(book)]
                left = Look(emptied, floor).whole
                less = [other for other in range(len(floor)) if left[other] < whole[other] and other != one]
                self.assertIs(type(without(book, floor, one)), tuple)
                self.assertIs(type(lost(book, floor, one)), list)
                self.assertEqual(without(book, floor, one), left)
                self.assertEqual(lost(book, floor, one), less)
                self.assertTrue(is_above(whole, left))
                several += len(less) > 1
                if not book[one]:
                    self.assertEqual((left, less), (whole, []))
        self.assertGreater(several, 20)

    def test_twelve_folk(self):
        for one in range(12):
            self.assertEqual(without(so_many(12, 11), (0,) * 12, one), (0,) * 12)
            self.assertEqual(lost(so_many(12, 11), (0,) * 12, one), [other for other in range(12) if other != one])
            self.assertEqual(lost(so_many(12, 10), (0,) * 12, one), [])
            self.assertEqual(lost(chain(12), (0,) * 12, one), list(range(one + 1, 12)))


class HandedAndToldTest(unittest.TestCase):
    def test_handed_books_and_crowds_stay(self):
        for book, floor in LAID:
            before = copy.deepcopy(book)
            for crowd in crowds_of(range(len(floor))):
                handed = list(crowd)
                begun(book, floor, handed)
                self.assertEqual(handed, crowd)
            begins(book, floor)
            for one in range(len(floor)):
                without(book, floor, one)
                lost(book, floor, one)
            self.assertEqual(book, before)

    def test_told_lists_are_the_askers_own(self):
        for book, begin in ((rings(4, (0, 2), (1, 3)), [0, 1]), (CHAIN + [[]], [])):
            told = begins(book, (0,) * 4)
            told.append(9)
            self.assertEqual(begins(book, (0,) * 4), begin)
        told = lost(CHAIN, (0, 0, 0), 0)
        told.clear()
        self.assertEqual(lost(CHAIN, (0, 0, 0), 0), [1])

    def test_a_changed_book_is_read_anew(self):
        book = rings(3, (0, 1))
        self.assertEqual(begins(book, (0, 0, 0)), [0])
        self.assertEqual(without(book, (0, 0, 0), 2), (2, 2, 0))
        book[0][0] = ((2, ("all", (("gives", 1, 2), ("gives", 2, 1)))),)
        self.assertEqual(begins(book, (0, 0, 0)), [])
        self.assertEqual(begun(book, (0, 0, 0), [0, 1]), (0, 0, 0))
        book[2].append(((1, FREE),))
        self.assertEqual(begins(book, (0, 0, 0)), [0])
        self.assertEqual(begun(book, (0, 0, 0), [1]), (2, 2, 1))
        self.assertEqual(without(book, (0, 0, 0), 2), (0, 0, 0))
        self.assertEqual(lost(book, (0, 0, 0), 2), [0, 1])
        self.assertEqual(due_at(book, (0, 0, 0), (2, 2, 1)), (2, 2, 1))


if __name__ == "__main__":
    unittest.main()
