"""Points 2, 4 and 19 to 23 and the interface's section of loveboon/boon.py."""

import itertools
import unittest
from collections import Counter

from loveboon.asks import book_of, coming, folk, green, hoped, may_hand, owed, pledges, sure, there
from loveboon.boon import Boon
from loveboon.errors import (
    BadPledge, BadRise, BoonError, Bound, Full, Gone, NoFolk, NoPledge, NotDue, NothingLeft,
)
from loveboon.notes import page
from tests.looks import FREE, HUGE, NEVER
from tests.model import Chance, Model

FAR = (-1, -HUGE, 12, 99, HUGE)
ONE_FREE = ((1, FREE),)


def boon_with(many, *entries):
    """A boon of so many folk with some pledges, pairs of one and pledge."""
    boon = Boon()
    for _ in range(many):
        boon.come()
    for one, pledge in entries:
        boon.pledge(one, pledge)
    return boon


def tied():
    """0 and 1 wait for one another, 2 gives 1 freely and 3 if both give."""
    return boon_with(
        3, (0, ((2, ("gives", 1, 2)),)), (1, ((2, ("gives", 0, 2)),)),
        (2, ((1, FREE), (3, ("crowd", (0, 1), 2, 2)))),
    )


def whole(boon):
    """All that can be asked of a boon by its page, and what can be undone and redone."""
    return page(boon), boon.undoable(), boon.redoable()


def pages_back_and_forth(boon):
    """The pages of a twin undone to the beginning, and done again to the end."""
    other = boon.twin()
    back, forth = [page(other)], []
    while other.undoable():
        other.undo()
        back.append(page(other))
    forth.append(page(other))
    while other.redoable():
        other.redo()
        forth.append(page(other))
    return back, forth


class BoonTest(unittest.TestCase):
    def refused(self, boon, refusal, deed, *handed):
        before = whole(boon), pages_back_and_forth(boon)
        with self.assertRaises(BoonError) as caught:
            getattr(boon, deed)(*handed)
        self.assertIs(type(caught.exception), refusal)
        self.assertEqual((whole(boon), pages_back_and_forth(boon)), before)


class ComingAndLeavingTest(BoonTest):
    def test_a_new_one_has_nobody(self):
        boon = Boon()
        self.assertEqual((folk(boon), there(boon), green(boon), pledges(boon), coming(boon)), (0, [], (), [], 0))
        self.assertEqual((boon.undoable(), boon.redoable()), (0, 0))

    def test_up_to_twelve(self):
        boon = Boon()
        for one in range(12):
            self.assertEqual(boon.come(), one)
            self.assertEqual(green(boon), (0,) * (one + 1))
            self.assertEqual(there(boon), list(range(one + 1)))
        self.refused(boon, Full, "come")
        boon.leave(3)
        self.refused(boon, Full, "come")
        boon.undo()
        self.refused(boon, Full, "come")
        boon.undo()
        self.assertEqual(boon.come(), 11)

    def test_leaving(self):
        boon = boon_with(3)
        self.assertIsNone(boon.leave(1))
        self.assertEqual((folk(boon), there(boon)), (3, [0, 2]))
        self.refused(boon, Gone, "leave", 1)
        self.assertIsNone(boon.leave(0))
        self.assertEqual((folk(boon), there(boon)), (3, [2]))
        for one in (3,) + FAR:
            self.refused(boon, NoFolk, "leave", one)
        boon.leave(2)
        self.assertEqual((folk(boon), there(boon), green(boon)), (3, [], (0, 0, 0)))
        self.assertEqual(boon.come(), 3)

    def test_of_nobody(self):
        for one in (0, 1) + FAR:
            self.refused(Boon(), NoFolk, "leave", one)
            self.refused(Boon(), NoFolk, "pledge", one, ONE_FREE)
            self.refused(Boon(), NoFolk, "hand", [(one, 1)])

    def test_truths_are_no_numbers(self):
        boon = boon_with(2, (0, ONE_FREE), (1, ONE_FREE))
        for truth in (True, False):
            self.refused(boon, NoFolk, "leave", truth)
            self.refused(boon, NoFolk, "pledge", truth, ONE_FREE)
            self.refused(boon, NoFolk, "hand", [(truth, 1)])
            self.refused(boon, BadRise, "hand", [(0, truth)])
            self.refused(boon, NoPledge, "change", truth, ONE_FREE)
            self.refused(boon, NoPledge, "withdraw", truth)
            self.refused(boon, BadPledge, "pledge", 0, ((truth, FREE),))
            self.refused(boon, BadPledge, "pledge", 0, ((1, ("gives", truth, 1)),))

    def test_what_was_handed_in_stays_and_pledges_fall(self):
        boon = tied()
        boon.pledge(0, ((4, NEVER),))
        boon.hand([(0, 2), (1, 2)])
        boon.leave(0)
        self.assertEqual(green(boon), (2, 2, 0))
        self.assertEqual([entry[:2] for entry in pledges(boon)], [(1, 1), (2, 2)])
        self.assertEqual(owed(boon, 1), 2)
        self.assertEqual(owed(boon, 2), 3)
        boon.hand([(2, 3)])
        self.assertEqual(green(boon), (2, 2, 3))
        self.refused(boon, Gone, "hand", [(0, 3)])
        self.refused(boon, Gone, "pledge", 0, ONE_FREE)
        self.refused(boon, NoPledge, "withdraw", 0)
        self.refused(boon, NoPledge, "change", 3, ONE_FREE)

    def test_who_left_without_handing_in(self):
        boon = tied()
        boon.leave(0)
        self.assertEqual((sure(boon), hoped(boon)), ((0, 0, 1), (0, 0, 1)))


class PledgingTest(BoonTest):
    def test_numbers_are_not_given_twice(self):
        boon = boon_with(2)
        self.assertEqual([boon.pledge(one, ONE_FREE) for one in (0, 1, 0)], [0, 1, 2])
        boon.withdraw(2)
        self.assertEqual(boon.pledge(0, ONE_FREE), 3)
        boon.leave(0)
        self.assertEqual(boon.pledge(1, ONE_FREE), 4)
        self.assertEqual([entry[0] for entry in pledges(boon)], [1, 4])
        self.assertEqual(coming(boon), 5)
        boon.undo()
        self.assertEqual(coming(boon), 4)
        self.assertEqual(boon.pledge(1, ONE_FREE), 4)

    def test_numbers_behind_an_undoing(self):
        boon = boon_with(1)
        self.assertEqual(boon.come(), 1)
        boon.undo()
        self.assertEqual(boon.come(), 1)
        self.assertEqual(boon.pledge(0, ONE_FREE), 0)
        boon.undo()
        self.assertEqual(boon.pledge(1, ONE_FREE), 0)
        boon.withdraw(0)
        self.assertEqual(boon.pledge(1, ONE_FREE), 1)

    def test_forty_and_one_more(self):
        boon = boon_with(3)
        for number in range(40):
            self.assertEqual(boon.pledge(number % 3, ONE_FREE), number)
        self.refused(boon, Full, "pledge", 0, ONE_FREE)
        self.refused(boon, BadPledge, "pledge", 0, ((1, ("gives", 0, 1)),))
        self.refused(boon, NoFolk, "pledge", 3, ONE_FREE)
        boon.change(39, ((2, FREE),))
        self.refused(boon, Full, "pledge", 0, ONE_FREE)
        boon.withdraw(7)
        self.assertEqual(boon.pledge(0, ONE_FREE), 40)
        self.refused(boon, Full, "pledge", 0, ONE_FREE)
        boon.leave(1)
        self.refused(boon, Gone, "pledge", 1, ())
        for number in range(12):
            self.assertEqual(boon.pledge(2, ONE_FREE), 41 + number)
        self.refused(boon, Full, "pledge", 2, ONE_FREE)
        boon.undo()
        self.assertEqual(boon.pledge(2, ONE_FREE), 52)

    def test_whom_a_pledge_may_name(self):
        boon = boon_with(2)
        later = ((1, ("gives", 2, 1)),)
        self.refused(boon, BadPledge, "pledge", 0, ((1, ("gives", 0, 1)),))
        self.refused(boon, BadPledge, "pledge", 0, ((1, ("sum", (0, 1), 1)),))
        self.refused(boon, BadPledge, "pledge", 0, later)
        boon.pledge(0, ONE_FREE)
        self.refused(boon, BadPledge, "change", 0, later)
        self.refused(boon, BadPledge, "change", 0, ((1, ("gives", 0, 1)),))
        boon.come()
        self.assertEqual(boon.pledge(0, later), 1)
        boon.leave(2)
        self.assertEqual(boon.pledge(0, later), 2)
        self.assertIsNone(boon.change(0, later))
        self.refused(boon, BadPledge, "change", 0, ((1, ("gives", 3, 1)),))

    def test_what_is_no_pledge(self):
        boon = boon_with(2, (0, ONE_FREE))
        bad = ((), ((0, FREE),), ((10, FREE),), ((2, FREE), (2, FREE)), ((2, FREE), (1, FREE)), ((1, ("free", 1)),),
               ((HUGE, FREE),), ((-1, FREE),), ((1, ("gives", -1, 1)),), ((1,),), (1, FREE), None, [], [(1, FREE)],
               ([1, FREE],), ((1, ["free"]),), "1?free", 7, ((1, ("gives", 1, 0)),), ((1, ()),), ((1, ("odd",)),))
        for thing in bad:
            self.refused(boon, BadPledge, "pledge", 0, thing)
            self.refused(boon, BadPledge, "change", 0, thing)
            self.refused(boon, NoPledge, "change", 1, thing)
            self.refused(boon, NoFolk, "pledge", 2, thing)

    def test_nine_rungs_and_four_deep(self):
        deep = ("all", (("any", (("all", (("gives", 1, 1), FREE)), NEVER)), FREE))
        pledge = tuple((step, deep) for step in range(1, 10))
        boon = boon_with(2)
        self.assertEqual(boon.pledge(0, pledge), 0)
        self.assertEqual(pledges(boon), [(0, 0, pledge)])
        self.refused(boon, BadPledge, "pledge", 0, ((1, ("any", (deep, FREE))),))

    def test_change_keeps_number_and_place(self):
        boon = boon_with(2, (0, ONE_FREE), (1, ONE_FREE), (0, ONE_FREE))
        self.assertIsNone(boon.change(1, ((5, NEVER),)))
        self.assertEqual(pledges(boon), [(0, 0, ONE_FREE), (1, 1, ((5, NEVER),)), (2, 0, ONE_FREE)])
        self.assertEqual(coming(boon), 3)
        for number in (3, -1, -3, 40, HUGE, -HUGE):
            self.refused(boon, NoPledge, "change", number, ONE_FREE)
            self.refused(boon, NoPledge, "withdraw", number)
        self.assertIsNone(boon.withdraw(1))
        self.assertEqual(pledges(boon), [(0, 0, ONE_FREE), (2, 0, ONE_FREE)])
        self.refused(boon, NoPledge, "withdraw", 1)
        self.refused(boon, NoPledge, "change", 1, ONE_FREE)


class BoundTest(BoonTest):
    def test_just_where_less_would_be_owed(self):
        boon = boon_with(2, (0, ((3, FREE), (5, ("gives", 1, 1)))))
        boon.hand([(0, 3)])
        for pledge in (((2, FREE),), ((3, NEVER),), ((1, FREE), (3, ("gives", 1, 1)))):
            self.refused(boon, Bound, "change", 0, pledge)
        self.refused(boon, Bound, "withdraw", 0)
        self.refused(boon, BadPledge, "change", 0, ((2, ("gives", 0, 1)),))
        for pledge in (((3, FREE),), ((4, FREE),), ((2, NEVER), (3, FREE)), ((1, FREE), (9, FREE))):
            self.assertIsNone(boon.change(0, pledge))

    def test_several_pledges_of_one(self):
        boon = boon_with(2, (0, ((2, FREE),)), (0, ((3, FREE),)), (1, ((9, FREE),)))
        boon.hand([(0, 2)])
        boon.withdraw(0)
        self.refused(boon, Bound, "withdraw", 1)
        self.refused(boon, Bound, "change", 1, ONE_FREE)
        boon.pledge(0, ((2, FREE),))
        boon.withdraw(1)
        self.refused(boon, Bound, "withdraw", 3)
        boon.withdraw(2)

    def test_nothing_handed_in_binds_nobody(self):
        boon = tied()
        for number in range(3):
            boon.change(number, ((9, NEVER),))
            boon.withdraw(number)
        self.assertEqual(pledges(boon), [])

    def test_by_what_lies_there_and_not_by_what_is_sure(self):
        boon = tied()
        boon.hand([(0, 2), (1, 2)])
        self.refused(boon, Bound, "withdraw", 0)
        self.refused(boon, Bound, "change", 1, ((2, ("all", (("gives", 0, 2), ("gives", 2, 1)))),))
        boon.hand([(2, 1)])
        boon.change(1, ((2, ("all", (("gives", 0, 2), ("gives", 2, 1)))),))
        boon.leave(0)
        self.refused(boon, Bound, "withdraw", 1)

    def test_a_withdrawn_pledge_of_what_is_left(self):
        boon = boon_with(1, (0, ((1, FREE),)))
        boon.hand([(0, 1)])
        self.refused(boon, Bound, "withdraw", 0)
        boon.leave(0)
        self.refused(boon, NoPledge, "withdraw", 0)
        self.assertEqual(green(boon), (1,))


class HandingTest(BoonTest):
    def refused_rises(self, boon, refusal, rises):
        handed = list(rises)
        self.refused(boon, refusal, "hand", handed)
        before = whole(boon)
        self.assertIs(may_hand(boon, handed), False)
        self.assertEqual(whole(boon), before)
        self.assertEqual(handed, rises)

    def let_by(self, boon, rises):
        handed = list(rises)
        before = whole(boon)
        self.assertIs(may_hand(boon, handed), True)
        self.assertEqual(whole(boon), before)
        self.assertIsNone(boon.hand(handed))
        self.assertEqual(handed, rises)

    def test_of_one(self):
        boon = tied()
        self.refused_rises(boon, NotDue, [(2, 2)])
        self.refused_rises(boon, NotDue, [(0, 1)])
        self.refused_rises(boon, NotDue, [(0, 2)])
        self.let_by(boon, [(2, 1)])
        self.assertEqual(green(boon), (0, 0, 1))
        self.refused_rises(boon, BadRise, [(2, 1)])
        self.refused_rises(boon, NotDue, [(2, 2)])

    def test_of_several_at_once(self):
        boon = tied()
        self.refused_rises(boon, NotDue, [(0, 2), (1, 1)])
        self.refused_rises(boon, NotDue, [(0, 1), (1, 2)])
        self.refused_rises(boon, NotDue, [(0, 2), (1, 2), (2, 4)])
        self.let_by(boon, [(1, 2), (2, 3), (0, 2)])
        self.assertEqual(green(boon), (2, 2, 3))
        self.assertEqual(boon.undoable(), 7)

    def test_steps_in_between_are_let_by(self):
        boon = boon_with(1, (0, ((5, FREE),)))
        for step in range(1, 6):
            self.let_by(boon, [(0, step)])
        self.refused_rises(boon, NotDue, [(0, 6)])

    def test_an_empty_list(self):
        for boon in (Boon(), boon_with(2), tied()):
            self.refused_rises(boon, BadRise, [])

    def test_who_stands_twice(self):
        boon = boon_with(2, (0, ((9, FREE),)), (1, ((9, FREE),)))
        self.refused_rises(boon, BadRise, [(0, 1), (0, 2)])
        self.refused_rises(boon, BadRise, [(0, 1), (0, 1)])
        self.refused_rises(boon, BadRise, [(0, 2), (1, 1), (0, 3)])

    def test_steps(self):
        boon = boon_with(2, (0, ((9, FREE),)), (1, ((9, FREE),)))
        boon.hand([(0, 3)])
        for step in (3, 2, 1, 0, -1, -HUGE, 10, 11, HUGE):
            self.refused_rises(boon, BadRise, [(0, step)])
            self.refused_rises(boon, BadRise, [(1, 1), (0, step)])
        self.refused_rises(boon, BadRise, [(1, 0)])
        self.let_by(boon, [(0, 9)])
        self.refused_rises(boon, BadRise, [(0, 10)])

    def test_refusals_in_the_order_of_the_rises(self):
        boon = boon_with(4, (0, ((9, FREE),)), (1, ONE_FREE))
        boon.leave(3)
        bad = {NoFolk: [(4, 1), (-1, 1), (HUGE, 0)], Gone: [(3, 1), (3, 0), (3, HUGE)], BadRise: [(1, 0), (1, 10)]}
        for one, other in itertools.permutations(bad, 2):
            for first, second in itertools.product(bad[one], bad[other]):
                self.refused_rises(boon, one, [first, second])
                self.refused_rises(boon, one, [(0, 1), first, second])
        # Who stands twice is told where that one stands the second time.
        self.refused_rises(boon, BadRise, [(0, 1), (0, 2), (4, 1)])
        self.refused_rises(boon, NoFolk, [(0, 1), (4, 1), (0, 2)])

    def test_not_due_is_told_behind_all_others(self):
        boon = boon_with(3, (0, ONE_FREE))
        boon.leave(2)
        for refusal, rise in ((NoFolk, (3, 1)), (Gone, (2, 1)), (BadRise, (1, 0)), (BadRise, (0, 3))):
            self.refused_rises(boon, refusal, [(0, 2), rise])
        self.refused_rises(boon, NotDue, [(0, 2)])
        self.refused_rises(boon, NotDue, [(1, 1)])

    def test_two_who_stay_bound_to_one_another(self):
        boon = tied()
        boon.hand([(0, 2), (1, 2)])
        boon.leave(1)
        self.assertEqual(owed(boon, 0), 2)
        self.refused_rises(boon, Gone, [(1, 3)])
        self.refused_rises(boon, BadRise, [(0, 2)])

    def test_one_by_one_to_the_sure_giving_and_no_further(self):
        entries = [
            (0, ((1, FREE), (2, ("gives", 2, 1)))), (1, ((1, ("gives", 0, 1)), (3, ("sum", (0, 2), 3)))),
            (2, ((1, ("gives", 1, 1)),)), (3, ((4, ("gives", 4, 4)),)), (4, ((4, ("gives", 3, 4)),)),
        ]
        for order in itertools.permutations(range(5)):
            boon = boon_with(5, *entries)
            last = sure(boon)
            self.assertEqual(last, (2, 3, 1, 0, 0))
            moved = True
            while moved:
                moved = False
                for one in order:
                    # The smallest step at a time.
                    if may_hand(boon, [(one, green(boon)[one] + 1)]):
                        boon.hand([(one, green(boon)[one] + 1)])
                        moved = True
            self.assertEqual(green(boon), last)
            self.assertEqual(sure(boon), last)
            for one in range(5):
                self.assertFalse(any(may_hand(boon, [(one, step)]) for step in range(10)))

    def test_knot_by_knot_and_all_at_once_to_the_greatest(self):
        boon = boon_with(
            5, (0, ((2, ("gives", 1, 2)),)), (1, ((2, ("gives", 0, 2)),)), (2, ((1, ("gives", 3, 1)),)),
            (3, ((1, ("gives", 2, 1)),)), (4, ((3, ("crowd", (0, 1, 2, 3), 1, 3)),)),
        )
        last = hoped(boon)
        self.assertEqual(last, (2, 2, 1, 1, 3))
        other = boon.twin()
        other.hand([(one, step) for one, step in enumerate(last)])
        boon.hand([(0, 2), (1, 2)])
        self.assertEqual((sure(boon), hoped(boon)), ((2, 2, 0, 0, 0), last))
        boon.hand([(2, 1), (3, 1)])
        boon.hand([(4, 3)])
        for ended in (boon, other):
            self.assertEqual((green(ended), sure(ended), hoped(ended)), (last, last, last))
            for steps in itertools.product(range(4), repeat=5):
                rises = [(one, step) for one, step in enumerate(steps) if step > last[one]]
                self.assertIs(may_hand(ended, rises), False)

    def test_any_rises_lead_to_the_greatest_at_most(self):
        boon = tied()
        last = hoped(boon)
        for steps in itertools.product(range(5), repeat=3):
            rises = [(one, step) for one, step in enumerate(steps) if step > 0]
            fits = may_hand(boon, rises)
            if fits:
                self.assertTrue(all(step <= last[one] for one, step in rises))
            self.assertIs(fits, steps in ((0, 0, 1), (2, 2, 0), (2, 2, 1), (2, 2, 2), (2, 2, 3)), steps)


class UndoingTest(BoonTest):
    def test_nothing_left_at_both_ends(self):
        boon = Boon()
        self.refused(boon, NothingLeft, "undo")
        self.refused(boon, NothingLeft, "redo")
        boon.come()
        self.refused(boon, NothingLeft, "redo")
        self.assertIsNone(boon.undo())
        self.refused(boon, NothingLeft, "undo")
        self.assertIsNone(boon.redo())
        self.refused(boon, NothingLeft, "redo")
        self.assertEqual(folk(boon), 1)

    def test_each_deed(self):
        boon = boon_with(3, (0, ((2, FREE),)), (1, ONE_FREE))
        for deed, *handed in (("come",), ("leave", 1), ("pledge", 2, ONE_FREE), ("change", 1, ((3, FREE),)),
                              ("withdraw", 1), ("hand", [(0, 2)])):
            before = page(boon)
            many = boon.undoable()
            getattr(boon, deed)(*handed)
            after = page(boon)
            self.assertNotEqual(before, after, deed)
            self.assertEqual((boon.undoable(), boon.redoable()), (many + 1, 0))
            for _ in range(3):
                boon.undo()
                self.assertEqual(whole(boon), (before, many, 1))
                boon.redo()
                self.assertEqual(whole(boon), (after, many + 1, 0))
            boon.undo()

    def test_a_deed_that_changes_nothing_is_one_still(self):
        boon = boon_with(1, (0, ONE_FREE))
        before = page(boon)
        boon.change(0, ONE_FREE)
        self.assertEqual(whole(boon), (before, 3, 0))
        boon.undo()
        self.assertEqual(whole(boon), (before, 2, 1))

    def test_a_new_deed_behind_an_undoing(self):
        boon = boon_with(3)
        boon.undo()
        boon.undo()
        self.assertEqual((boon.undoable(), boon.redoable()), (1, 2))
        self.refused(boon, NoFolk, "leave", 1)
        self.assertEqual(boon.redoable(), 2)
        boon.leave(0)
        self.assertEqual((boon.undoable(), boon.redoable()), (2, 0))
        self.refused(boon, NothingLeft, "redo")
        boon.undo()
        self.assertEqual(there(boon), [0])
        boon.redo()
        self.assertEqual(there(boon), [])

    def test_asking_changes_nothing(self):
        boon = tied()
        boon.undo()
        before = whole(boon)
        for ask in (folk, there, green, pledges, coming, book_of, sure, hoped, page):
            ask(boon)
        owed(boon, 0)
        boon.twin()
        self.assertEqual(whole(boon), before)


class TwinTest(BoonTest):
    def test_they_go_their_own_ways(self):
        boon = tied()
        boon.undo()
        before = whole(boon)
        other = boon.twin()
        self.assertIs(type(other), Boon)
        self.assertEqual(whole(other), before)
        other.come()
        third = other.twin()
        self.assertEqual(whole(boon), before)
        other.leave(0)
        other.undo()
        self.assertEqual((boon.redoable(), other.redoable(), third.redoable()), (1, 1, 0))
        boon.redo()
        self.assertEqual((folk(boon), folk(other), folk(third)), (3, 4, 4))
        self.assertEqual((len(pledges(boon)), len(pledges(other)), len(pledges(third))), (3, 2, 2))
        while third.undoable():
            third.undo()
        self.assertEqual((folk(third), third.redoable()), (0, 6))
        self.assertEqual((boon.undoable(), other.undoable()), (6, 6))
        other.redo()
        self.assertEqual(there(other), [1, 2, 3])
        self.assertEqual(there(boon), [0, 1, 2])
        while third.redoable():
            third.redo()
        self.assertEqual((folk(third), len(pledges(third))), (4, 2))

    def test_a_twin_of_nobody(self):
        boon = Boon()
        other = boon.twin()
        other.come()
        self.assertEqual((folk(boon), folk(other)), (0, 1))
        self.refused(boon, NothingLeft, "undo")

    def test_the_same_things_handed_to_both(self):
        one, other = boon_with(2), boon_with(2)
        pledge = ((1, FREE), (2, ("gives", 1, 1)))
        rises = [(0, 1)]
        for boon in (one, other):
            boon.pledge(0, pledge)
            boon.hand(rises)
        self.assertEqual(rises, [(0, 1)])
        rises[0] = (0, 2)
        rises.append((1, 1))
        self.assertEqual((green(one), green(other)), ((1, 0), (1, 0)))
        one.leave(0)
        self.assertEqual((there(one), there(other)), ([1], [0, 1]))
        self.assertEqual(pledges(other), [(0, 0, pledge)])
        one.undo()
        one.undo()
        self.assertEqual((green(one), green(other)), ((0, 0), (1, 0)))


class ByChanceTest(unittest.TestCase):
    def told(self, boon, deed, handed):
        try:
            return getattr(boon, deed)(*handed)
        except BoonError as refusal:
            return f"!{type(refusal).__name__}"

    def look(self, boon, model):
        self.assertEqual(folk(boon), len(model.steps))
        self.assertEqual(green(boon), tuple(model.steps))
        self.assertEqual(there(boon), [one for one in range(len(model.steps)) if one not in model.left])
        self.assertEqual(pledges(boon), [(number,) + model.standing[number] for number in sorted(model.standing)])
        self.assertEqual(coming(boon), model.next)
        self.assertEqual((boon.undoable(), boon.redoable()), (len(model.past), len(model.future)))
        for one in there(boon):
            self.assertLessEqual(green(boon)[one], owed(boon, one))

    def test_beside_the_model(self):
        counts = Counter()
        for seed in range(30):
            chance = Chance(seed)
            # Two by turns, which have nothing to do with one another, and now and then a twin of one.
            pairs = [(Boon(), Model()), (Boon(), Model())]
            for at in range(160):
                boon, model = pairs[at % 2]
                deed, *handed = chance.deed(model)
                if deed == "hand":
                    fits = may_hand(boon, handed[0])
                told = self.told(boon, deed, handed)
                self.assertEqual(told, model.do(deed, *handed), (seed, at, deed, handed))
                refused = isinstance(told, str)
                counts[f"{deed} {told if refused else ''}"] += 1
                if deed == "hand":
                    self.assertIs(fits, not refused)
                self.look(boon, model)
                if at % 40 == 30:
                    pairs[at % 2] = (boon.twin(), model)
            for boon, model in pairs:
                while boon.undoable():
                    boon.undo()
                    model.do("undo")
                    self.look(boon, model)
                while boon.redoable():
                    boon.redo()
                    model.do("redo")
                    self.look(boon, model)
        for words in (
            "come ", "leave ", "pledge ", "change ", "withdraw ", "hand ", "undo ", "redo ", "leave !NoFolk",
            "leave !Gone", "pledge !NoFolk", "pledge !Gone", "pledge !BadPledge", "change !NoPledge",
            "change !BadPledge", "change !Bound", "withdraw !NoPledge", "withdraw !Bound", "hand !BadRise",
            "hand !NoFolk", "hand !Gone", "hand !NotDue", "redo !NothingLeft",
        ):
            self.assertGreater(counts[words], 4, (words, counts))


if __name__ == "__main__":
    unittest.main()
