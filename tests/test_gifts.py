"""Points 2, 4, 5 and 6 and the interface's section of loveboon/gifts.py."""

import itertools
import unittest

from loveboon.errors import BadGiving, TooMany
from loveboon.gifts import (
    above, box, giving_of, highest, is_giving, joined, lowest, met, number_of, size,
)

HUGE = 10 ** 39 + 7
SMALL_BOXES = (
    (0,), (9,), (0, 0, 0), (3, 2), (2, 0, 3), (0, 4, 0), (1,) * 5, (9, 9), (2, 3, 1, 2), (0,) * 11 + (2,),
)


def all_below(tops):
    """What a box has, reckoned another way."""
    return sorted(itertools.product(*[range(top + 1) for top in tops]))


def is_above(one, other):
    return all(one[k] >= other[k] for k in range(len(one)))


class GivingTest(unittest.TestCase):
    def test_lengths(self):
        self.assertIs(is_giving(()), False)
        for many in range(1, 13):
            self.assertIs(is_giving((0,) * many), True)
            self.assertIs(is_giving((9,) * many), True)
        for many in (13, 14, 200):
            self.assertIs(is_giving((0,) * many), False)

    def test_steps(self):
        for step in range(10):
            self.assertIs(is_giving((step,)), True)
        for step in (-HUGE, -9, -1, 10, 11, 99, HUGE):
            self.assertIs(is_giving((step,)), False)
            self.assertIs(is_giving((step, 0, 0)), False)
            self.assertIs(is_giving((0, step, 0)), False)
            self.assertIs(is_giving((0, 0, step)), False)
            self.assertIs(is_giving((0,) * 11 + (step,)), False)

    def test_true_and_false_are_no_steps(self):
        self.assertIs(is_giving((True,)), False)
        self.assertIs(is_giving((0, False, 2)), False)


class AboveTest(unittest.TestCase):
    def test_told_ones(self):
        self.assertIs(above((1, 2), (1, 2)), True)
        self.assertIs(above((1, 3), (1, 2)), True)
        self.assertIs(above((2, 2), (1, 2)), True)
        self.assertIs(above((1, 2), (1, 3)), False)
        self.assertIs(above((0, 9), (1, 0)), False)
        self.assertIs(above((9, 0), (0, 1)), False)
        self.assertIs(above((0,), (9,)), False)
        self.assertIs(above((9,) * 12, (0,) * 12), True)
        self.assertIs(above((9,) * 11 + (8,), (9,) * 12), False)

    def test_all_of_a_box(self):
        rows = all_below((2, 1, 2))
        for one, other in itertools.product(rows, rows):
            self.assertIs(above(one, other), is_above(one, other))

    def test_joined_and_met(self):
        self.assertEqual(joined((1, 5, 3), (2, 4, 3)), (2, 5, 3))
        self.assertEqual(met((1, 5, 3), (2, 4, 3)), (1, 4, 3))
        self.assertEqual(joined((0,), (9,)), (9,))
        self.assertEqual(met((0,), (9,)), (0,))
        self.assertEqual(joined((0, 9) * 6, (9, 0) * 6), (9,) * 12)
        self.assertEqual(met((0, 9) * 6, (9, 0) * 6), (0,) * 12)

    def test_joined_is_the_least_above_both_and_met_the_greatest_below(self):
        rows = all_below((2, 1, 2))
        for one, other in itertools.product(rows, rows):
            over = [row for row in rows if is_above(row, one) and is_above(row, other)]
            under = [row for row in rows if is_above(one, row) and is_above(other, row)]
            self.assertEqual(joined(one, other), min(over))
            self.assertEqual(met(one, other), max(under))
            self.assertIs(type(joined(one, other)), tuple)
            self.assertIs(type(met(one, other)), tuple)


class BoxTest(unittest.TestCase):
    def test_size(self):
        for tops in SMALL_BOXES:
            self.assertEqual(size(tops), len(all_below(tops)))
        self.assertEqual(size((0,) * 12), 1)
        self.assertEqual(size((1,) * 12), 4096)
        self.assertEqual(size((9,) * 12), 10 ** 12)

    def test_all_in_order(self):
        for tops in SMALL_BOXES:
            told = box(tops)
            self.assertIs(type(told), list)
            self.assertEqual(told, all_below(tops))
        self.assertEqual(box((1, 2)), [(0, 0), (0, 1), (0, 2), (1, 0), (1, 1), (1, 2)])

    def test_tops_of_noughts(self):
        for many in (1, 2, 12):
            noughts = (0,) * many
            self.assertEqual(size(noughts), 1)
            self.assertEqual(box(noughts), [noughts])
            self.assertEqual(number_of(noughts, noughts), 0)
            self.assertEqual(giving_of(noughts, 0), noughts)
            with self.assertRaises(BadGiving):
                giving_of(noughts, 1)

    def test_just_4096(self):
        for tops in ((7, 7, 7, 7), (1,) * 12, (3,) * 6, (0, 7, 7, 7, 7, 0)):
            self.assertEqual(size(tops), 4096)
            self.assertEqual(box(tops), all_below(tops))

    def test_fewer(self):
        tops = (9, 8, 8, 4)
        self.assertEqual(size(tops), 4050)
        self.assertEqual(box(tops), all_below(tops))

    def test_more(self):
        # 4116 is the next greater size that any box has.
        self.assertEqual(size((3, 2, 6, 6, 6)), 4116)
        for tops in ((3, 2, 6, 6, 6), (8, 7, 7, 7), (9, 9, 9, 9), (1,) * 11 + (2,), (9,) * 12):
            with self.assertRaises(TooMany):
                box(tops)

    def test_back_and_forth(self):
        for tops in SMALL_BOXES + ((7, 7, 7, 7),):
            for number, giving in enumerate(all_below(tops)):
                self.assertEqual(number_of(tops, giving), number)
                self.assertEqual(giving_of(tops, number), giving)

    def test_numbers_of_a_box_of_any_size(self):
        nines = (9,) * 12
        self.assertEqual(number_of(nines, (1, 2, 3, 4, 5, 6, 7, 8, 9, 0, 1, 2)), 123456789012)
        self.assertEqual(giving_of(nines, 123456789012), (1, 2, 3, 4, 5, 6, 7, 8, 9, 0, 1, 2))
        self.assertEqual(number_of(nines, nines), 10 ** 12 - 1)
        self.assertEqual(giving_of(nines, 10 ** 12 - 1), nines)
        with self.assertRaises(BadGiving):
            giving_of(nines, 10 ** 12)

    def test_places_that_are_none(self):
        for tops in SMALL_BOXES:
            many = len(all_below(tops))
            self.assertEqual(giving_of(tops, many - 1), tops)
            for number in (-HUGE, -many, -1, many, many + 1, HUGE):
                with self.assertRaises(BadGiving):
                    giving_of(tops, number)

    def test_givings_that_are_not_in_the_box(self):
        tops = (3, 0, 2)
        wrong = (
            (4, 0, 0), (0, 1, 0), (0, 0, 3), (3, 0, 3), (9, 9, 9), (HUGE, 0, 0),
            (-1, 0, 0), (0, -1, 0), (0, 0, -1), (1, 0, -1), (0, 0, -HUGE),
            (), (0,), (0, 0), (3, 0), (0, 0, 0, 0), (3, 0, 2, 0), (0,) * 12, (0,) * 13,
        )
        for giving in wrong:
            with self.assertRaises(BadGiving):
                number_of(tops, giving)

    def test_a_told_box_is_the_askers_own(self):
        told = box((1, 1))
        told.reverse()
        told.append((5, 5))
        self.assertEqual(box((1, 1)), [(0, 0), (0, 1), (1, 0), (1, 1)])


class LowestHighestTest(unittest.TestCase):
    def test_empty(self):
        self.assertEqual(lowest([]), [])
        self.assertEqual(highest([]), [])

    def test_one_and_the_same_twice(self):
        for ask in (lowest, highest):
            self.assertEqual(ask([(3, 1)]), [(3, 1)])
            self.assertEqual(ask([(3, 1), (3, 1)]), [(3, 1)])
            self.assertEqual(ask([(3, 1), (1, 3), (3, 1), (1, 3)]), [(1, 3), (3, 1)])

    def test_told_ones(self):
        rows = [(2, 2), (0, 3), (3, 0), (1, 1), (3, 3), (3, 3), (4, 1), (1, 1)]
        self.assertEqual(lowest(rows), [(0, 3), (1, 1), (3, 0)])
        self.assertEqual(highest(rows), [(3, 3), (4, 1)])

    def test_all_lists_out_of_a_box(self):
        rows = all_below((2, 1, 1))
        for chosen in range(2 ** len(rows)):
            some = [row for at, row in enumerate(rows) if chosen >> at & 1]
            least = [row for row in some if not any(is_above(row, other) for other in some if other != row)]
            most = [row for row in some if not any(is_above(other, row) for other in some if other != row)]
            mixed = some[1::2] + some[::-1]
            self.assertEqual(lowest(mixed), least)
            self.assertEqual(highest(mixed), most)

    def test_the_handed_list_stays_and_the_told_one_is_the_askers_own(self):
        for ask, answer in ((lowest, [(0, 2), (1, 0)]), (highest, [(0, 2), (2, 1)])):
            rows = [(2, 1), (1, 0), (0, 2), (2, 1)]
            told = ask(rows)
            self.assertEqual(rows, [(2, 1), (1, 0), (0, 2), (2, 1)])
            self.assertEqual(told, answer)
            told.append((0, 0))
            told.reverse()
            self.assertEqual(rows, [(2, 1), (1, 0), (0, 2), (2, 1)])
            self.assertEqual(ask(rows), answer)

    def test_a_list_of_one_is_told_as_another_list(self):
        for ask in (lowest, highest):
            rows = [(1, 2)]
            told = ask(rows)
            told.clear()
            self.assertEqual(rows, [(1, 2)])

    def test_two_hundred(self):
        rows = [(step, 9 - step, 9) for step in range(10)] * 20
        self.assertEqual(lowest(rows), [(step, 9 - step, 9) for step in range(10)])
        self.assertEqual(highest(rows), [(step, 9 - step, 9) for step in range(10)])


if __name__ == "__main__":
    unittest.main()
