"""Points 2 and 12 to 15 and the interface's section of loveboon/rounds.py."""

import copy
import itertools
import unittest

from loveboon.pledges import is_pledge
from loveboon.rounds import (
    clear, even, fall, greatest, kept, least, rise, roof, shows_greatest, shows_least, what_is_due,
)
from tests.books import BOOKS, CHAIN, KNOT, chain
from tests.looks import FREE, NEVER, all_below, due_at, is_above


class BooksTest(unittest.TestCase):
    def test_the_looked_at_ones(self):
        for book, floor in BOOKS + [(chain(many), (0,) * many) for many in range(1, 13)]:
            self.assertEqual(len(book), len(floor))
            for one, pledges in enumerate(book):
                for pledge in pledges:
                    self.assertIs(is_pledge(len(book), one, pledge), True)
        self.assertTrue(any(not pledges for book, floor in BOOKS for pledges in book))
        self.assertTrue(any(len(pledges) > 2 for book, floor in BOOKS for pledges in book))


class DueTest(unittest.TestCase):
    def test_written_ones(self):
        for giving, due in (
            ((0, 0, 0), (1, 0, 0)), ((1, 0, 0), (1, 1, 0)), ((0, 1, 0), (2, 0, 0)), ((0, 0, 2), (1, 3, 0)),
            ((1, 0, 2), (1, 3, 0)), ((9, 9, 1), (2, 1, 0)), ((9, 9, 9), (2, 3, 0)),
        ):
            self.assertEqual(what_is_due(CHAIN, (0, 0, 0), giving), due, giving)

    def test_the_floor_is_due(self):
        self.assertEqual(what_is_due(CHAIN, (0, 2, 5), (0, 0, 0)), (1, 2, 5))
        self.assertEqual(what_is_due(CHAIN, (2, 2, 5), (0, 0, 2)), (2, 3, 5))
        self.assertEqual(what_is_due([[]], (4,), (0,)), (4,))
        self.assertEqual(what_is_due([[((3, FREE),)]], (4,), (0,)), (4,))
        self.assertEqual(what_is_due([[((5, FREE),)]], (4,), (0,)), (5,))

    def test_the_greatest_of_several(self):
        pledges = [((1, FREE), (4, NEVER)), ((3, ("gives", 1, 1)),), ((2, ("gives", 1, 2)),)]
        for book in itertools.permutations(pledges):
            self.assertEqual(what_is_due([list(book), []], (0, 0), (0, 0)), (1, 0))
            self.assertEqual(what_is_due([list(book), []], (0, 0), (0, 1)), (3, 0))
            self.assertEqual(what_is_due([list(book), []], (2, 0), (0, 0)), (2, 0))
            self.assertEqual(what_is_due([list(book), []], (0, 9), (0, 9)), (3, 9))

    def test_one_to_twelve_folk(self):
        for many in range(1, 13):
            noughts, nines = (0,) * many, (9,) * many
            nobody = [[] for _ in range(many)]
            self.assertEqual(what_is_due(nobody, noughts, nines), noughts)
            self.assertEqual(what_is_due(nobody, nines, noughts), nines)
            self.assertEqual(what_is_due(chain(many), noughts, noughts), (1,) + (0,) * (many - 1))
            self.assertEqual(what_is_due(chain(many), noughts, nines), tuple(min(one + 1, 9) for one in range(many)))

    def test_by_a_look_at_all_givings(self):
        for book, floor in BOOKS:
            for giving in all_below((4, 3, 3, 1)[:len(floor)]):
                due = due_at(book, floor, giving)
                told = what_is_due(book, floor, giving)
                self.assertIs(type(told), tuple)
                self.assertEqual(told, due, (book, floor, giving))
                self.assertIs(kept(book, floor, giving), is_above(due, giving))
                self.assertIs(clear(book, floor, giving), is_above(giving, due))
                self.assertIs(even(book, floor, giving), giving == due)

    def test_kept_clear_and_even(self):
        floor = (0, 0)
        for giving, is_kept, is_clear in (
            ((0, 0), True, True), ((1, 0), False, False), ((1, 1), False, True), ((2, 2), True, True),
            ((0, 1), False, True), ((2, 1), False, False), ((3, 2), False, True), ((2, 3), False, True),
            ((0, 2), False, False),
        ):
            self.assertIs(kept(KNOT, floor, giving), is_kept, giving)
            self.assertIs(clear(KNOT, floor, giving), is_clear, giving)
            self.assertIs(even(KNOT, floor, giving), is_kept and is_clear, giving)

    def test_below_the_floor_nothing_is_clear(self):
        self.assertIs(kept([[]], (2,), (1,)), True)
        self.assertIs(clear([[]], (2,), (1,)), False)
        self.assertIs(even([[]], (2,), (1,)), False)
        self.assertIs(even([[]], (2,), (2,)), True)
        self.assertIs(kept([[]], (2,), (3,)), False)
        self.assertIs(clear([[]], (2,), (3,)), True)

    def test_roof(self):
        self.assertEqual(roof(CHAIN, (0, 0, 0)), (2, 3, 0))
        self.assertEqual(roof(CHAIN, (5, 0, 4)), (5, 3, 4))
        self.assertEqual(roof(KNOT, (0, 9)), (2, 9))
        self.assertEqual(roof([[((1, FREE), (9, NEVER))]], (0,)), (9,))
        self.assertEqual(roof([[((7, FREE),), ((2, FREE), (8, NEVER)), ((3, FREE),)]], (0,)), (8,))
        self.assertEqual(roof([[], []], (0, 3)), (0, 3))
        for many in range(1, 13):
            self.assertEqual(roof(chain(many), (0,) * many), tuple(min(one + 1, 9) for one in range(many)))
        for book, floor in BOOKS:
            tops = tuple(
                max([step] + [rung[0] for pledge in pledges for rung in pledge]) for step, pledges in zip(floor, book)
            )
            self.assertIs(type(roof(book, floor)), tuple)
            self.assertEqual(roof(book, floor), tops)


class RiseAndFallTest(unittest.TestCase):
    def test_written_ones(self):
        self.assertEqual(rise(CHAIN, (0, 0, 0)), [(0, 0, 0), (1, 0, 0), (1, 1, 0), (2, 1, 0)])
        self.assertEqual(rise(CHAIN, (0, 0, 2)), [(0, 0, 2), (1, 3, 2), (2, 3, 2)])
        self.assertEqual(fall(CHAIN, (0, 0, 0)), [(2, 3, 0), (2, 1, 0)])
        self.assertEqual(fall(CHAIN, (0, 0, 2)), [(2, 3, 2)])
        self.assertEqual(rise(KNOT, (0, 0)), [(0, 0)])
        self.assertEqual(fall(KNOT, (0, 0)), [(2, 2)])
        self.assertEqual(rise(KNOT, (1, 0)), [(1, 0), (1, 1)])
        self.assertEqual(rise(KNOT, (2, 0)), [(2, 0), (2, 2)])

    def test_a_long_fall(self):
        book = [[((1, ("gives", 1, 2)), (2, ("gives", 1, 3)))], [((2, ("gives", 0, 2)), (3, ("gives", 0, 3)))]]
        self.assertEqual(fall(book, (0, 0)), [(2, 3), (2, 2), (1, 2), (1, 0), (0, 0)])
        self.assertEqual(rise(book, (0, 0)), [(0, 0)])

    def test_those_that_end_at_once(self):
        for many in range(1, 13):
            for floor in ((0,) * many, (9,) * many, tuple(range(many))):
                nobody = [[] for _ in range(many)]
                self.assertEqual(rise(nobody, floor), [floor])
                self.assertEqual(fall(nobody, floor), [floor])

    def test_chains(self):
        for many in range(1, 13):
            whole = tuple(min(one + 1, 9) for one in range(many))
            row = [whole[:given] + (0,) * (many - given) for given in range(many + 1)]
            self.assertEqual(rise(chain(many), (0,) * many), row)
            self.assertEqual(fall(chain(many), (0,) * many), [whole])
            unbegun = [[]] + chain(many)[1:]
            back = [(0,) * given + whole[given:] for given in range(1, many + 1)]
            self.assertEqual(fall(unbegun, (0,) * many), back)
            self.assertEqual(rise(unbegun, (0,) * many), [(0,) * many])

    def look_at_a_row(self, book, floor, row):
        for ahead, behind in zip(row, row[1:]):
            self.assertEqual(behind, due_at(book, floor, ahead))
            self.assertNotEqual(behind, ahead)
        self.assertEqual(due_at(book, floor, row[-1]), row[-1])

    def test_row_by_row(self):
        for book, floor in BOOKS:
            up, down = rise(book, floor), fall(book, floor)
            self.assertEqual(up[0], floor)
            self.assertEqual(down[0], roof(book, floor))
            for row in (up, down):
                self.assertIs(type(row), list)
                self.look_at_a_row(book, floor, row)
            self.assertTrue(all(is_above(behind, ahead) for ahead, behind in zip(up, up[1:])))
            self.assertTrue(all(is_above(ahead, behind) for ahead, behind in zip(down, down[1:])))
            self.assertEqual(least(book, floor), up[-1])
            self.assertEqual(greatest(book, floor), down[-1])

    def test_least_and_greatest_by_a_look_at_all_givings(self):
        several = 0
        for book, floor in BOOKS:
            rows = all_below((3, 3, 3, 3)[:len(floor)])
            dues = {row: due_at(book, floor, row) for row in rows}
            evens = [row for row in rows if dues[row] == row]
            low, high = least(book, floor), greatest(book, floor)
            self.assertIn(low, evens)
            self.assertIn(high, evens)
            for row in rows:
                if is_above(row, dues[row]):
                    self.assertTrue(is_above(row, low), (book, floor, row))
                if is_above(dues[row], row):
                    self.assertTrue(is_above(high, row), (book, floor, row))
            several += low != high
        self.assertGreater(several, 10)

    def test_told_ones(self):
        self.assertEqual(least(CHAIN, (0, 0, 0)), (2, 1, 0))
        self.assertEqual(greatest(CHAIN, (0, 0, 0)), (2, 1, 0))
        self.assertEqual(least(KNOT, (0, 0)), (0, 0))
        self.assertEqual(greatest(KNOT, (0, 0)), (2, 2))
        self.assertEqual(least(KNOT, (1, 0)), (1, 1))
        self.assertEqual(greatest(KNOT, (9, 9)), (9, 9))
        self.assertEqual(least([[((9, FREE),)]], (0,)), (9,))
        self.assertEqual(greatest([[((9, NEVER),)]], (0,)), (0,))


class ShowsLeastTest(unittest.TestCase):
    floor = (0, 0, 0)

    def yes(self, *rows):
        for row in rows:
            self.assertIs(shows_least(CHAIN, self.floor, row), True, row)

    def no(self, *rows):
        for row in rows:
            self.assertIs(shows_least(CHAIN, self.floor, row), False, row)

    def test_the_rise_does(self):
        for book, floor in BOOKS + [(chain(12), (0,) * 12)]:
            self.assertIs(shows_least(book, floor, rise(book, floor)), True)

    def test_an_empty_one(self):
        self.no([])
        self.assertIs(shows_least([[]], (0,), []), False)

    def test_a_single_giving(self):
        self.no([(0, 0, 0)], [(2, 1, 0)], [(9, 9, 9)])
        self.assertIs(shows_least([[]], (4,), [(4,)]), True)
        self.assertIs(shows_least([[]], (4,), [(3,)]), False)
        self.assertIs(shows_least([[]], (4,), [(5,)]), False)
        self.assertIs(shows_least([[((5, FREE),)]], (4,), [(4,)]), False)

    def test_begun_otherwise(self):
        self.no([(1, 0, 0), (1, 1, 0), (2, 1, 0)], [(2, 1, 0)])
        self.assertIs(shows_least([[]], (4,), [(0,), (4,)]), False)
        self.assertIs(shows_least([[((5, FREE),)]], (4,), [(5,)]), False)

    def test_too_far(self):
        self.no([(0, 0, 0), (2, 1, 0)], [(0, 0, 0), (1, 0, 0), (2, 1, 0)], [(0, 0, 0), (1, 1, 0), (2, 1, 0)])
        self.no([(0, 0, 0), (1, 0, 0), (1, 1, 0), (2, 1, 0), (2, 1, 1)])
        self.no([(0, 0, 0), (1, 0, 0), (1, 1, 0), (2, 2, 0)], [(0, 0, 0), (1, 0, 1), (1, 1, 1), (2, 1, 1)])
        self.assertIs(shows_least(KNOT, (0, 0), [(0, 0), (2, 2)]), False)
        self.assertIs(shows_least(KNOT, (0, 0), [(0, 0)]), True)

    def test_too_early(self):
        whole = [(0, 0, 0), (1, 0, 0), (1, 1, 0), (2, 1, 0)]
        for many in range(len(whole)):
            self.no(whole[:many])

    def test_doubled(self):
        self.yes([(0, 0, 0), (0, 0, 0), (1, 0, 0), (1, 1, 0), (1, 1, 0), (1, 1, 0), (2, 1, 0), (2, 1, 0)])

    def test_by_lesser_steps(self):
        floor, whole = (0, 0, 2), (2, 3, 2)
        for row in ([floor, (1, 3, 2), whole], [floor, (1, 0, 2), (1, 3, 2), whole], [floor, (0, 3, 2), whole],
                    [floor, (0, 1, 2), (0, 2, 2), (1, 2, 2), (2, 3, 2)]):
            self.assertIs(shows_least(CHAIN, floor, row), True, row)
        for row in ([floor, whole], [floor, (1, 3, 2), (1, 3, 2)], [floor, (0, 3, 2), (1, 3, 2)]):
            self.assertIs(shows_least(CHAIN, floor, row), False, row)

    def test_left_out(self):
        self.no([(0, 0, 0), (1, 1, 0), (2, 1, 0)], [(0, 0, 0), (1, 0, 0), (2, 1, 0)])
        self.no([(1, 0, 0), (1, 1, 0), (2, 1, 0)], [(0, 0, 0), (1, 0, 0), (1, 1, 0)])

    def test_never_back(self):
        self.no([(0, 0, 0), (1, 0, 0), (0, 0, 0), (1, 0, 0), (1, 1, 0), (2, 1, 0)])
        self.no([(0, 0, 0), (1, 0, 0), (0, 1, 0), (2, 1, 0)])
        self.no([(0, 0, 0), (1, 0, 0), (1, 1, 0), (2, 0, 0), (2, 1, 0)])


class ShowsGreatestTest(unittest.TestCase):
    # Pledges that fall by (2, 3), (2, 2), (1, 2), (1, 0) to (0, 0).
    book = [[((1, ("gives", 1, 2)), (2, ("gives", 1, 3)))], [((2, ("gives", 0, 2)), (3, ("gives", 0, 3)))]]
    whole = [(2, 3), (2, 2), (1, 2), (1, 0), (0, 0)]

    def yes(self, *rows):
        for row in rows:
            self.assertIs(shows_greatest(self.book, (0, 0), row), True, row)

    def no(self, *rows):
        for row in rows:
            self.assertIs(shows_greatest(self.book, (0, 0), row), False, row)

    def test_the_fall_does(self):
        self.yes(self.whole)
        unbegun = [[]] + chain(12)[1:]
        for book, floor in BOOKS + [(chain(12), (0,) * 12), (unbegun, (0,) * 12)]:
            self.assertIs(shows_greatest(book, floor, fall(book, floor)), True)

    def test_an_empty_one(self):
        self.no([])
        self.assertIs(shows_greatest([[]], (0,), []), False)

    def test_a_single_giving(self):
        self.no([(0, 0)], [(2, 3)], [(9, 9)])
        self.assertIs(shows_greatest([[]], (4,), [(4,)]), True)
        self.assertIs(shows_greatest([[]], (4,), [(3,)]), False)
        self.assertIs(shows_greatest([[]], (4,), [(5,)]), False)
        self.assertIs(shows_greatest(KNOT, (0, 0), [(2, 2)]), True)
        self.assertIs(shows_greatest(KNOT, (0, 0), [(0, 0)]), False)

    def test_begun_otherwise(self):
        self.no(self.whole[1:], self.whole[4:], [(2, 2)] + self.whole[1:], [(1, 3), (1, 2), (1, 0), (0, 0)])
        self.no([(0, 0)] + self.whole)
        self.yes([(9, 9)] + self.whole, [(2, 9)] + self.whole, [(9, 9), (2, 9), (2, 3)] + self.whole[1:])
        self.yes([(2, 4)] + self.whole[1:], [(3, 3), (2, 3)] + self.whole[1:])

    def test_too_far(self):
        self.no([(2, 3), (1, 2), (1, 0), (0, 0)], [(2, 3), (2, 2), (1, 0), (0, 0)], [(2, 3), (0, 0)])
        self.no([(9, 9), (2, 2), (1, 2), (1, 0), (0, 0)], [(2, 3), (2, 1), (0, 0)])
        self.assertIs(shows_greatest(KNOT, (0, 0), [(2, 2), (0, 0)]), False)
        self.assertIs(shows_greatest([[]], (4,), [(4,), (3,)]), False)

    def test_too_early(self):
        for many in range(len(self.whole)):
            self.no(self.whole[:many])

    def test_doubled(self):
        self.yes([(2, 3), (2, 3), (2, 2), (1, 2), (1, 2), (1, 0), (0, 0), (0, 0)])

    def test_by_lesser_steps(self):
        self.yes([(2, 3), (2, 2), (1, 2), (1, 1), (0, 1), (0, 0)], [(2, 3), (2, 2), (1, 2), (1, 1), (0, 0)])
        self.yes([(9, 9), (5, 9), (2, 4), (2, 3), (2, 2), (1, 2), (1, 0), (0, 0)])

    def test_left_out(self):
        for at in range(len(self.whole)):
            self.no(self.whole[:at] + self.whole[at + 1:])

    def test_never_back(self):
        self.no([(2, 3), (2, 2), (2, 3), (2, 2), (1, 2), (1, 0), (0, 0)])
        self.no([(2, 3), (3, 2), (2, 2), (1, 2), (1, 0), (0, 0)])
        self.no([(2, 3), (2, 2), (1, 2), (1, 0), (0, 1), (0, 0)])


class AllRowsTest(unittest.TestCase):
    """Every row of one to three givings of a small box, by the words of point 15."""

    def shows_low(self, book, floor, row):
        steps = all(
            is_above(row[at], row[at - 1]) and is_above(due_at(book, floor, row[at - 1]), row[at])
            for at in range(1, len(row))
        )
        return row[0] == floor and steps and is_above(row[-1], due_at(book, floor, row[-1]))

    def shows_high(self, book, floor, row):
        steps = all(
            is_above(row[at - 1], row[at]) and is_above(row[at], due_at(book, floor, row[at - 1]))
            for at in range(1, len(row))
        )
        return is_above(row[0], roof(book, floor)) and steps and is_above(due_at(book, floor, row[-1]), row[-1])

    def test_all(self):
        shown = [0, 0]
        books = [(KNOT, (0, 0)), (KNOT, (1, 0)), (KNOT, (0, 1))]
        books += [(book, floor) for book, floor in BOOKS if len(floor) == 2 and max(roof(book, floor)) < 3][:9]
        for book, floor in books:
            givings = all_below((2, 2))
            for many in (1, 2, 3):
                for row in itertools.product(givings, repeat=many):
                    low, high = shows_least(book, floor, list(row)), shows_greatest(book, floor, list(row))
                    self.assertIs(low, self.shows_low(book, floor, row), (book, floor, row))
                    self.assertIs(high, self.shows_high(book, floor, row), (book, floor, row))
                    if low:
                        self.assertEqual(row[-1], least(book, floor))
                        shown[0] += 1
                    if high:
                        self.assertEqual(row[-1], greatest(book, floor))
                        shown[1] += 1
        self.assertGreater(min(shown), 20)


class HandedAndToldTest(unittest.TestCase):
    def test_handed_books_and_rows_stay(self):
        for book, floor in BOOKS[:20]:
            before = copy.deepcopy(book)
            for ask in (what_is_due, kept, clear, even):
                ask(book, floor, floor)
            for ask in (roof, rise, fall, least, greatest):
                ask(book, floor)
            for ask in (shows_least, shows_greatest):
                for row in (rise(book, floor), fall(book, floor), [], [floor, floor]):
                    handed = list(row)
                    ask(book, floor, handed)
                    self.assertEqual(handed, row)
            self.assertEqual(book, before)

    def test_told_lists_are_the_askers_own(self):
        for ask, answer in ((rise, [(0, 0, 0), (1, 0, 0), (1, 1, 0), (2, 1, 0)]), (fall, [(2, 3, 0), (2, 1, 0)])):
            told = ask(CHAIN, (0, 0, 0))
            told.reverse()
            told.append((9, 9, 9))
            self.assertEqual(ask(CHAIN, (0, 0, 0)), answer)
        self.assertEqual(least(CHAIN, (0, 0, 0)), (2, 1, 0))
        self.assertEqual(greatest(CHAIN, (0, 0, 0)), (2, 1, 0))

    def test_a_changed_book_is_read_anew(self):
        book = [[], [((2, ("gives", 0, 1)),)]]
        self.assertEqual(least(book, (0, 0)), (0, 0))
        book[0].append(((1, FREE),))
        self.assertEqual(least(book, (0, 0)), (1, 2))
        self.assertEqual(fall(book, (0, 0)), [(1, 2)])


if __name__ == "__main__":
    unittest.main()
