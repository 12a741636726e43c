"""Points 2, 4, 6, 12 and 13 and the interface's section of loveboon/between.py."""

import copy
import unittest

from loveboon.between import evens, joined_even, met_even, risen, sunk
from loveboon.errors import NotClear, NotEven, NotKept, TooMany
from loveboon.rounds import greatest, least, roof
from tests.books import BOOKS, CHAIN, KNOT, LAID, TIED, Look, chain, nobody, rings, so_many
from tests.looks import FREE, JUST_4096, NEVER, TOO_LARGE, all_below, due_at, is_above, least_among, most_among

LOOKED_AT = BOOKS + LAID + TIED


def whole_steps(tops):
    """A book in which each pledged the top for never, so that its roof is the tops."""
    return [[((top, NEVER),)] if top else [] for top in tops]


class EvensTest(unittest.TestCase):
    def test_written_ones(self):
        self.assertEqual(evens(CHAIN, (0, 0, 0)), [(2, 1, 0)])
        self.assertEqual(evens(KNOT, (0, 0)), [(0, 0), (2, 2)])
        self.assertEqual(evens(KNOT, (1, 0)), [(1, 1), (2, 2)])
        self.assertEqual(evens(rings(4, (0, 2), (1, 3)), (0, 0, 0, 0)),
                         [(0, 0, 0, 0), (0, 2, 0, 2), (2, 0, 2, 0), (2, 2, 2, 2)])
        self.assertEqual(evens([[((9, FREE),)]], (0,)), [(9,)])
        self.assertEqual(evens([[((9, NEVER),)]], (4,)), [(4,)])

    def test_by_a_look_at_all_givings(self):
        several = 0
        for book, floor in LOOKED_AT:
            told = evens(book, floor)
            self.assertIs(type(told), list)
            self.assertEqual(told, Look(book, floor).evens, (book, floor))
            self.assertEqual((told[0], told[-1]), (least(book, floor), greatest(book, floor)))
            for row in told:
                self.assertIs(type(row), tuple)
                self.assertTrue(is_above(row, told[0]) and is_above(told[-1], row))
            several += len(told) > 2
        self.assertGreater(several, 3)

    def test_many_between(self):
        for many in range(1, 7):
            crowds = [(2 * at, 2 * at + 1) for at in range(many)]
            told = evens(rings(2 * many, *crowds, step=1), (0,) * 2 * many)
            self.assertEqual(told, sorted(
                tuple(step for step in row for _ in range(2)) for row in all_below((1,) * many)
            ))

    def test_boxes_of_just_4096(self):
        for tops in JUST_4096:
            floor = (0,) * len(tops)
            self.assertEqual(roof(whole_steps(tops), floor), tops)
            self.assertEqual(evens(whole_steps(tops), floor), [floor])
            # The box lies below the roof, whatever of it lies below the floor.
            self.assertEqual(evens(nobody(len(tops)), tops), [tops])
        self.assertEqual(evens(so_many(12, 11), (0,) * 12), [(0,) * 12, (1,) * 12])

    def test_larger_ones(self):
        for tops in TOO_LARGE:
            floor = (0,) * len(tops)
            for book, lies in ((whole_steps(tops), floor), (nobody(len(tops)), tops)):
                with self.assertRaises(TooMany):
                    evens(book, lies)
        with self.assertRaises(TooMany):
            evens(chain(12), (0,) * 12)
        with self.assertRaises(TooMany):
            evens(so_many(12, 11), (0,) * 11 + (2,))


class RisenAndSunkTest(unittest.TestCase):
    def test_written_ones(self):
        self.assertEqual(risen(KNOT, (0, 0), (0, 0)), (0, 0))
        self.assertEqual(risen(KNOT, (0, 0), (2, 2)), (2, 2))
        self.assertEqual(risen(CHAIN, (0, 0, 0), (0, 0, 0)), (2, 1, 0))
        self.assertEqual(risen(CHAIN, (0, 0, 2), (1, 1, 0)), (2, 3, 2))
        self.assertEqual(sunk(KNOT, (0, 0), (1, 1)), (0, 0))
        self.assertEqual(sunk(KNOT, (0, 0), (9, 9)), (2, 2))
        self.assertEqual(sunk(KNOT, (1, 0), (1, 1)), (1, 1))
        self.assertEqual(sunk(CHAIN, (0, 0, 0), (9, 9, 9)), (2, 1, 0))

    def test_below_and_above_the_floor(self):
        self.assertEqual(risen([[]], (4,), (0,)), (4,))
        self.assertEqual(risen([[]], (4,), (4,)), (4,))
        self.assertEqual(sunk([[]], (4,), (9,)), (4,))
        with self.assertRaises(NotKept):
            risen([[]], (4,), (5,))
        with self.assertRaises(NotClear):
            sunk([[]], (4,), (3,))

    def test_by_a_look_at_all_givings(self):
        counts = {"kept": 0, "not kept": 0, "clear": 0, "not clear": 0}
        for book, floor in LOOKED_AT:
            even_ones = Look(book, floor).evens
            for row in all_below((4, 3, 3, 3)[:len(floor)]):
                due = due_at(book, floor, row)
                if is_above(due, row):
                    over = [other for other in even_ones if is_above(other, row)]
                    self.assertEqual([risen(book, floor, row)], least_among(over), (book, floor, row))
                    counts["kept"] += 1
                else:
                    with self.assertRaises(NotKept):
                        risen(book, floor, row)
                    counts["not kept"] += 1
                if is_above(row, due):
                    under = [other for other in even_ones if is_above(row, other)]
                    self.assertEqual([sunk(book, floor, row)], most_among(under), (book, floor, row))
                    counts["clear"] += 1
                else:
                    with self.assertRaises(NotClear):
                        sunk(book, floor, row)
                    counts["not clear"] += 1
        self.assertGreater(min(counts.values()), 500)

    def test_large_boxes_are_not_refused(self):
        whole = tuple(min(one + 1, 9) for one in range(12))
        self.assertEqual(risen(chain(12), (0,) * 12, (0,) * 12), whole)
        self.assertEqual(sunk(chain(12), (0,) * 12, (9,) * 12), whole)
        self.assertEqual(joined_even(chain(12), (0,) * 12, whole, whole), whole)
        self.assertEqual(met_even(chain(12), (0,) * 12, whole, whole), whole)


class JoinedAndMetTest(unittest.TestCase):
    # Two rings, and 4 gives 1 if both give.
    book = rings(5, (0, 1), (2, 3), step=1)
    book[4].append(((1, ("all", (("gives", 0, 1), ("gives", 2, 1)))),))
    floor = (0, 0, 0, 0, 0)

    def test_more_comes_of_both(self):
        one, other = (1, 1, 0, 0, 0), (0, 0, 1, 1, 0)
        self.assertEqual(joined_even(self.book, self.floor, one, other), (1, 1, 1, 1, 1))
        self.assertEqual(met_even(self.book, self.floor, one, other), (0, 0, 0, 0, 0))

    def test_less_is_left_of_both(self):
        # 2 gives where 0 or 1 gives; 0 and 1 are two rings, one with 3, one with 4.
        book = rings(5, (0, 3), (1, 4), step=1)
        book[2].append(((1, ("any", (("gives", 0, 1), ("gives", 1, 1)))),))
        one, other = (1, 0, 1, 1, 0), (0, 1, 1, 0, 1)
        self.assertEqual(met_even(book, self.floor, one, other), self.floor)
        self.assertEqual(joined_even(book, self.floor, one, other), (1, 1, 1, 1, 1))

    def test_all_pairs_by_a_look_at_all_givings(self):
        apart = 0
        looked_at = [(book, floor, 3) for book, floor in LOOKED_AT] + [(self.book, self.floor, 1)]
        looked_at.append((rings(6, (0, 1), (2, 3), (4, 5), step=1), (0,) * 6, 1))
        for book, floor, top in looked_at:
            even_ones = Look(book, floor, top).evens
            for one in even_ones:
                for other in even_ones:
                    over = [row for row in even_ones if is_above(row, one) and is_above(row, other)]
                    under = [row for row in even_ones if is_above(one, row) and is_above(other, row)]
                    self.assertEqual([joined_even(book, floor, one, other)], least_among(over))
                    self.assertEqual([met_even(book, floor, one, other)], most_among(under))
                    apart += not is_above(one, other) and not is_above(other, one)
        self.assertGreater(apart, 10)

    def test_where_one_is_not_even(self):
        for book, floor in LOOKED_AT[:40] + LAID + TIED[:10]:
            even_ones = Look(book, floor).evens
            for row in all_below((3,) * len(floor)):
                if row in even_ones:
                    continue
                for ask in (joined_even, met_even):
                    for one, other in ((row, even_ones[0]), (even_ones[-1], row), (row, row)):
                        with self.assertRaises(NotEven):
                            ask(book, floor, one, other)


class HandedAndToldTest(unittest.TestCase):
    def test_handed_books_stay(self):
        for book, floor in LAID + BOOKS[:20]:
            before = copy.deepcopy(book)
            told = evens(book, floor)
            risen(book, floor, floor)
            sunk(book, floor, (9,) * len(floor))
            joined_even(book, floor, told[0], told[-1])
            met_even(book, floor, told[0], told[-1])
            self.assertEqual(book, before)

    def test_told_lists_are_the_askers_own(self):
        told = evens(KNOT, (0, 0))
        told.reverse()
        told.append((9, 9))
        self.assertEqual(evens(KNOT, (0, 0)), [(0, 0), (2, 2)])

    def test_a_changed_book_is_read_anew(self):
        book = [[], [((2, ("gives", 0, 2)),)]]
        self.assertEqual(evens(book, (0, 0)), [(0, 0)])
        book[0].append(((2, ("gives", 1, 2)),))
        self.assertEqual(evens(book, (0, 0)), [(0, 0), (2, 2)])
        self.assertEqual(risen(book, (0, 0), (2, 2)), (2, 2))
        self.assertEqual(sunk(book, (0, 0), (2, 2)), (2, 2))
        book[1][0] = ((2, FREE),)
        self.assertEqual(evens(book, (0, 0)), [(2, 2)])
        self.assertEqual(joined_even(book, (0, 0), (2, 2), (2, 2)), (2, 2))
        with self.assertRaises(NotEven):
            met_even(book, (0, 0), (0, 0), (2, 2))
        book[0].clear()
        with self.assertRaises(NotKept):
            risen(book, (0, 0), (2, 2))


if __name__ == "__main__":
    unittest.main()
