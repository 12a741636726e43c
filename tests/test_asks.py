"""Points 2, 4 and 16 to 22 and the interface's section of loveboon/asks.py."""

import unittest

from loveboon.asks import (
    boon_begins, boon_knots, book_of, coming, folk, green, hoped, may_hand, owed, pledges, sure, there,
)
from loveboon.boon import Boon
from loveboon.errors import BoonError, Gone, NoFolk
from loveboon.faith import begins
from loveboon.knots import knots
from loveboon.notes import page
from tests.books import Look
from tests.looks import FREE, HUGE
from tests.model import Chance, Model

ASKS = (folk, there, green, pledges, coming, book_of, sure, hoped, boon_knots, boon_begins)


def tied():
    """0 and 1 wait for one another, 2 gives 1 freely and 3 if both give, 3 left."""
    boon = Boon()
    for _ in range(4):
        boon.come()
    boon.pledge(3, ((9, FREE),))
    boon.pledge(2, ((1, FREE), (3, ("crowd", (0, 1), 2, 2))))
    boon.pledge(1, ((2, ("gives", 0, 2)),))
    boon.pledge(0, ((2, ("gives", 1, 2)),))
    boon.pledge(1, ((1, ("gives", 2, 9)),))
    boon.leave(3)
    return boon


def all_asked(boon):
    return [ask(boon) for ask in ASKS]


class AsksTest(unittest.TestCase):
    def test_of_nobody(self):
        self.assertEqual(all_asked(Boon()), [0, [], (), [], 0, [], (), (), [], []])
        for rises in ([], [(0, 1)], [(-1, 1)], [(0, 0)], [(HUGE, HUGE)]):
            self.assertIs(may_hand(Boon(), rises), False)
        for one in (0, -1, 1, HUGE, -HUGE):
            with self.assertRaises(NoFolk):
                owed(Boon(), one)

    def test_of_nobody_again(self):
        boon = tied()
        while boon.undoable():
            boon.undo()
        self.assertEqual(all_asked(boon), [0, [], (), [], 0, [], (), (), [], []])

    def test_of_one_without_pledges(self):
        boon = Boon()
        boon.come()
        self.assertEqual(all_asked(boon), [1, [0], (0,), [], 0, [[]], (0,), (0,), [], []])
        self.assertEqual(owed(boon, 0), 0)
        boon.leave(0)
        self.assertEqual(all_asked(boon), [1, [], (0,), [], 0, [[]], (0,), (0,), [], []])

    def test_of_several(self):
        boon = tied()
        of_2, of_1, of_0 = ((1, FREE), (3, ("crowd", (0, 1), 2, 2))), ((2, ("gives", 0, 2)),), ((2, ("gives", 1, 2)),)
        more = ((1, ("gives", 2, 9)),)
        self.assertEqual(all_asked(boon), [
            4, [0, 1, 2], (0, 0, 0, 0), [(1, 2, of_2), (2, 1, of_1), (3, 0, of_0), (4, 1, more)], 5,
            [[of_0], [of_1, more], [of_2], []], (0, 0, 1, 0), (2, 2, 3, 0), [[0, 1]], [0],
        ])
        boon.hand([(1, 2), (0, 2)])
        self.assertEqual((green(boon), sure(boon), hoped(boon)), ((2, 2, 0, 0), (2, 2, 3, 0), (2, 2, 3, 0)))
        self.assertEqual((boon_knots(boon), boon_begins(boon)), ([], []))

    def test_what_lies_there_is_the_floor(self):
        boon = Boon()
        for _ in range(3):
            boon.come()
        boon.pledge(0, ((2, FREE),))
        boon.pledge(1, ((1, ("gives", 0, 2)),))
        boon.hand([(0, 2)])
        boon.leave(0)
        # Of who left nothing is owed, but what lies there counts.
        self.assertEqual((book_of(boon)[0], green(boon), sure(boon)), ([], (2, 0, 0), (2, 1, 0)))
        self.assertEqual(hoped(boon), (2, 1, 0))

    def test_owed(self):
        boon = tied()
        self.assertEqual([owed(boon, one) for one in range(3)], [0, 0, 1])
        boon.hand([(0, 2), (1, 2)])
        self.assertEqual([owed(boon, one) for one in range(3)], [2, 2, 3])
        with self.assertRaises(Gone):
            owed(boon, 3)
        for one in (4, -1, -4, 12, HUGE, -HUGE, True):
            with self.assertRaises(NoFolk):
                owed(boon, one)

    def test_owed_of_several_pledges(self):
        boon = Boon()
        boon.come()
        boon.come()
        for step in (3, 5, 4):
            boon.pledge(0, ((step, FREE),))
        boon.pledge(1, ((9, FREE),))
        self.assertEqual(owed(boon, 0), 5)
        boon.withdraw(1)
        self.assertEqual(owed(boon, 0), 4)

    def test_may_hand(self):
        boon = tied()
        for rises, fits in (
            ([(2, 1)], True), ([(0, 2), (1, 2)], True), ([(1, 2), (0, 2), (2, 3)], True), ([(2, 2)], False),
            ([], False), ([(0, 2)], False), ([(3, 1)], False), ([(4, 1)], False), ([(-1, 1)], False),
            ([(2, 1), (2, 1)], False), ([(2, 0)], False), ([(2, 10)], False), ([(2, -1)], False), ([(2, HUGE)], False),
            ([(HUGE, 1)], False), ([(2, 1), (3, 1)], False), ([(2, True)], False), ([(False, 1)], False),
        ):
            self.assertIs(may_hand(boon, rises), fits, rises)


class ToldTest(unittest.TestCase):
    def test_told_lists_are_the_askers_own(self):
        boon = tied()
        before = all_asked(boon), page(boon)
        there(boon).append(9)
        pledges(boon).clear()
        book = book_of(boon)
        book[0].clear()
        book[3].append(((1, FREE),))
        book.pop()
        some = boon_knots(boon)
        some[0].append(9)
        some.append([1])
        boon_begins(boon).append(9)
        self.assertEqual((all_asked(boon), page(boon)), before)

    def test_told_ones_stay_behind_later_deeds(self):
        boon = tied()
        told = all_asked(boon)
        again = all_asked(boon)
        boon.hand([(2, 1)])
        boon.come()
        boon.leave(0)
        self.assertEqual(told, again)

    def test_kinds(self):
        for boon in (Boon(), tied()):
            kinds = [int, list, tuple, list, int, list, tuple, tuple, list, list]
            self.assertEqual([type(told) for told in all_asked(boon)], kinds)
        self.assertTrue(all(type(entry) is tuple for entry in pledges(tied())))


class ByChanceTest(unittest.TestCase):
    def look(self, boon, model):
        book = model.book()
        self.assertEqual(book_of(boon), book)
        self.assertEqual(sure(boon), model.sure())
        self.assertEqual(hoped(boon), model.hoped())
        if book:
            self.assertEqual(boon_knots(boon), knots(book, tuple(model.steps)))
            self.assertEqual(boon_begins(boon), begins(book, tuple(model.steps)))
        if 0 < len(book) < 4:
            look = Look(book, tuple(model.steps))
            self.assertEqual(boon_knots(boon), look.knots())
            self.assertEqual(boon_begins(boon), look.begins())
        for one in range(-1, len(book) + 1):
            if one in there(boon):
                self.assertEqual(owed(boon, one), model.owed(one))
            else:
                with self.assertRaises(Gone if one in model.left else NoFolk):
                    owed(boon, one)

    def test_every_answer_behind_each_deed(self):
        for seed in range(100, 112):
            chance, boon, model = Chance(seed), Boon(), Model()
            for _ in range(80):
                deed, *handed = chance.deed(model)
                model.do(deed, *handed)
                try:
                    getattr(boon, deed)(*handed)
                except BoonError:
                    pass
                self.look(boon, model)
                rises = chance.rises(model)
                self.assertIs(may_hand(boon, rises), model.lets_by(rises))


if __name__ == "__main__":
    unittest.main()
