"""Points 2, 4, 6, 8, 10 and 11 and the interface's section of loveboon/pledges.py."""

import itertools
import unittest

from loveboon.errors import BadGiving, TooMany
from loveboon.pledges import asks, is_pledge, last_step, owes, paper, parted, stronger
from tests.looks import (
    FREE, HUGE, JUST_4096, NEVER, SMALL_BOXES, TOO_LARGE, Maker, all_below, is_above, least_among, most_among, owed_at,
)

STEPS = range(1, 10)
# A pledge of 0 whose rungs hold each on something of its own.
LADDER = ((2, ("gives", 1, 1)), (5, ("gives", 2, 2)), (9, ("sum", (1, 2), 5)))


def made_pledges():
    """Pledges of the folk 0 of three."""
    maker = Maker(10)
    return tuple(maker.pledge(3, 0, 4) for _ in range(40))


PLEDGES = (
    ((1, FREE),), ((9, FREE),), ((1, NEVER),), ((3, ("gives", 1, 2)),), LADDER,
    ((1, NEVER), (2, FREE)), ((1, FREE), (2, NEVER)), ((1, ("gives", 1, 3)), (4, ("gives", 1, 1))),
) + made_pledges()


class IsPledgeTest(unittest.TestCase):
    def yes(self, many, one, *things):
        for thing in things:
            self.assertIs(is_pledge(many, one, thing), True, (many, one, thing))

    def no(self, many, one, *things):
        for thing in things:
            self.assertIs(is_pledge(many, one, thing), False, (many, one, thing))

    def test_how_many_rungs(self):
        self.no(1, 0, ())
        for many in range(1, 10):
            self.yes(1, 0, tuple((step, FREE) for step in range(1, many + 1)))
            self.yes(1, 0, tuple((step, FREE) for step in range(10 - many, 10)))
        for many in (10, 11, 200):
            self.no(1, 0, tuple((step, FREE) for step in range(1, many + 1)))
            self.no(1, 0, tuple((step, FREE) for step in range(many)))
            self.no(1, 0, ((1, FREE),) * many)

    def test_steps(self):
        for step in STEPS:
            self.yes(2, 0, ((step, FREE),), ((step, ("gives", 1, 9)),))
        for step in (-HUGE, -1, 0, 10, 11, HUGE):
            self.no(2, 0, ((step, FREE),), ((step, FREE), (9, FREE)), ((1, FREE), (step, FREE)))

    def test_steps_rise(self):
        for first, second in itertools.product(STEPS, STEPS):
            told = is_pledge(2, 1, ((first, FREE), (second, FREE)))
            self.assertIs(told, first < second)
        self.yes(1, 0, ((1, FREE), (4, FREE), (9, FREE)))
        self.no(1, 0, ((1, FREE), (4, FREE), (4, FREE)), ((4, FREE), (4, FREE), (5, FREE)))
        self.no(1, 0, ((1, FREE), (4, FREE), (2, FREE)), ((1, FREE), (4, FREE), (3, FREE), (9, FREE)))
        self.no(1, 0, tuple((10 - step, FREE) for step in STEPS))

    def test_no_term_names_the_one_who_pledges(self):
        for one in range(4):
            for term in (
                ("gives", one, 1), ("sum", (0, 1, 2, 3), 4), ("crowd", (0, 1, 2, 3), 1, 2), ("crowd", (one,), 1, 1),
                ("all", (FREE, ("gives", one, 1))), ("any", (("any", (("gives", one, 9), NEVER)), FREE)),
            ):
                self.no(4, one, ((1, term),), ((1, FREE), (2, term)), ((1, term), (2, FREE)))
            for other in range(4):
                self.assertIs(is_pledge(4, one, ((1, ("gives", other, 1)),)), one != other)
        self.yes(4, 1, ((1, ("sum", (0, 2, 3), 4)),), ((1, ("crowd", (0, 2), 4, 2)), (2, ("gives", 3, 1))))

    def test_nobody_beyond_is_named(self):
        for many in range(1, 12):
            self.no(many, 0, ((1, ("gives", many, 1)),), ((1, FREE), (2, ("crowd", (many,), 1, 1))))
            self.yes(many + 1, 0, ((1, ("gives", many, 1)),), ((1, FREE), (2, ("crowd", (many,), 1, 1))))
        self.no(12, 0, ((1, ("gives", 12, 1)),), ((1, ("gives", -1, 1)),))
        self.no(1, 0, ((1, ("gives", 0, 1)),), ((1, ("gives", 1, 1)),))

    def test_terms_that_are_none(self):
        for wrong in ((), ("free", 1), ("gift",), ("gives", 1, 0), ("gives", 1, 10), ("sum", (1,), 1), ("all", (FREE,)),
                      "free", "", 0, 1, HUGE, (FREE,), (1, FREE)):
            self.no(3, 0, ((1, wrong),), ((1, FREE), (2, wrong)), ((1, wrong), (2, FREE)))
        deep = FREE
        for _ in range(3):
            deep = ("all", (deep, FREE))
        self.yes(3, 0, ((1, deep),))
        self.no(3, 0, ((1, ("any", (deep, FREE))),))

    def test_rungs_that_are_no_pairs(self):
        for wrong in ((), (1,), (FREE,), (2, FREE, FREE), (2, FREE, 3), (FREE, 2), FREE, "free", "", "2?", 0, 2, HUGE,
                      ((2, FREE),), ((2, FREE), (3, FREE)), ("2", FREE), ((2,), FREE)):
            self.no(3, 0, (wrong,), ((1, FREE), wrong), (wrong, (9, FREE)))
        self.no(3, 0, (1, FREE), (1, 2), ("ab", "cd"), (FREE, FREE))

    def test_true_and_false_are_no_numbers(self):
        self.no(3, 0, ((True, FREE),), ((True, FREE), (2, FREE)), ((False, FREE),), ((1, True),))
        self.no(3, 0, ((1, ("gives", True, 1)),), ((1, ("gives", 1, True)),))

    def test_no_tuple_is_none(self):
        self.no(3, 0, "free", "", 0, 5)

    def test_the_looked_at_ones(self):
        self.yes(3, 0, *PLEDGES)


class OwesTest(unittest.TestCase):
    def test_none_some_and_all(self):
        for giving, step in (
            ((0, 0, 0), 0), ((9, 0, 0), 0), ((0, 0, 1), 0), ((0, 1, 0), 2), ((0, 4, 1), 9), ((0, 3, 1), 2),
            ((0, 0, 2), 5), ((0, 1, 2), 5), ((0, 2, 2), 5), ((0, 3, 2), 9), ((0, 0, 5), 9), ((0, 5, 0), 9),
            ((9, 9, 9), 9),
        ):
            self.assertEqual(owes(LADDER, giving), step, giving)

    def test_a_later_rung_by_itself(self):
        pledge = ((1, NEVER), (2, ("gives", 1, 5)), (7, ("gives", 1, 1)))
        self.assertEqual(owes(pledge, (0, 0)), 0)
        self.assertEqual(owes(pledge, (0, 1)), 7)
        self.assertEqual(owes(pledge, (0, 5)), 7)
        self.assertEqual(owes(((1, FREE), (2, NEVER)), (0,)), 1)
        self.assertEqual(owes(((4, NEVER),), (0,)), 0)

    def test_nine_rungs(self):
        pledge = tuple((step, ("gives", 1, step)) for step in STEPS)
        for step in range(10):
            self.assertEqual(owes(pledge, (0, step)), step)
            self.assertEqual(owes(pledge, (9, step)), step)

    def test_by_a_look_at_all_givings(self):
        for pledge in PLEDGES:
            for giving in all_below((1, 4, 4)):
                self.assertEqual(owes(pledge, giving), owed_at(pledge, giving), (pledge, giving))

    def test_last_step(self):
        self.assertEqual(last_step(((1, FREE),)), 1)
        self.assertEqual(last_step(((9, NEVER),)), 9)
        self.assertEqual(last_step(((1, NEVER), (4, FREE))), 4)
        self.assertEqual(last_step(((1, FREE), (4, NEVER))), 4)
        self.assertEqual(last_step(tuple((step, FREE) for step in STEPS)), 9)
        for pledge in PLEDGES:
            self.assertEqual(last_step(pledge), max(step for step, term in pledge))

    def test_somewhat_beyond_nothing_is_refused(self):
        self.assertEqual(owes((), (0, 0)), 0)
        self.assertEqual(last_step(()), 0)
        pledge = tuple((step, ("gives", 1, step)) for step in range(1, 12))
        self.assertEqual(owes(pledge, (0, 11)), 11)
        self.assertEqual(last_step(pledge), 11)
        self.assertEqual(asks(pledge, 10, (0, 11)), [(0, 10)])


class AsksTest(unittest.TestCase):
    def test_written_ones(self):
        tops = (0, 4, 3)
        for step in STEPS:
            of_last = [(0, 2, 3), (0, 3, 2), (0, 4, 1)]
            answer = of_last if step > 5 else [(0, 0, 2), (0, 4, 1)] if step > 2 else [(0, 0, 2), (0, 1, 0)]
            self.assertEqual(asks(LADDER, step, tops), answer, step)

    def test_free_and_never(self):
        for tops in SMALL_BOXES:
            pledge = ((2, FREE), (6, NEVER))
            for step in STEPS:
                self.assertEqual(asks(pledge, step, tops), [(0, 0, 0)] if step <= 2 else [])

    def test_by_a_look_at_all_givings(self):
        for tops in SMALL_BOXES:
            rows = all_below(tops)
            for pledge in PLEDGES:
                for step in (1, 2, 3, 4, 5, 9):
                    there = [row for row in rows if owed_at(pledge, row) >= step]
                    self.assertEqual(asks(pledge, step, tops), least_among(there), (pledge, step, tops))

    def test_just_4096_givings(self):
        pledge = ((3, ("gives", 11, 1)), (4, ("sum", tuple(range(1, 12)), 11)))
        self.assertEqual(asks(pledge, 4, (1,) * 12), [(0,) + (1,) * 11])
        self.assertEqual(asks(pledge, 1, (1,) * 12), [(0,) * 11 + (1,)])
        self.assertEqual(asks(((9, ("gives", 3, 7)),), 9, (7, 7, 7, 7)), [(0, 0, 0, 7)])
        self.assertEqual(asks(((9, ("gives", 5, 3)),), 9, (3,) * 6), [(0, 0, 0, 0, 0, 3)])

    def test_too_many(self):
        for tops in TOO_LARGE:
            for pledge in (((1, FREE),), ((1, NEVER),)):
                with self.assertRaises(TooMany):
                    asks(pledge, 1, tops)

    def test_what_is_told_is_the_askers_own(self):
        told = asks(LADDER, 1, (0, 4, 3))
        self.assertIs(type(told), list)
        told.reverse()
        told.append((0, 0, 0))
        self.assertEqual(asks(LADDER, 1, (0, 4, 3)), [(0, 0, 2), (0, 1, 0)])


class PaperTest(unittest.TestCase):
    def look(self, pledge, step, giving, tops, least, most):
        kind, shown = paper(pledge, step, giving, tops)
        if owed_at(pledge, giving) >= step:
            self.assertEqual(kind, "want")
            self.assertIn(shown, least)
            self.assertTrue(is_above(giving, shown), (pledge, step, giving, tops))
        else:
            self.assertEqual(kind, "lack")
            self.assertIn(shown, most)
            self.assertTrue(is_above(shown, giving), (pledge, step, giving, tops))

    def test_written_ones(self):
        pledge, tops = ((3, ("sum", (1, 2), 3)),), (1, 2, 2)
        self.assertEqual(paper(pledge, 3, (1, 1, 2), tops), ("want", (0, 1, 2)))
        self.assertEqual(paper(pledge, 3, (0, 2, 1), tops), ("want", (0, 2, 1)))
        self.assertIn(paper(pledge, 3, (1, 2, 2), tops), (("want", (0, 1, 2)), ("want", (0, 2, 1))))
        self.assertEqual(paper(pledge, 3, (0, 0, 2), tops), ("lack", (1, 0, 2)))
        self.assertEqual(paper(pledge, 1, (0, 2, 0), tops), ("lack", (1, 2, 0)))
        self.assertEqual(paper(pledge, 4, (0, 2, 0), tops), ("lack", (1, 2, 2)))
        told = paper(pledge, 3, (0, 0, 0), tops)
        self.assertIs(type(told), tuple)
        self.assertIn(told, (("lack", (1, 0, 2)), ("lack", (1, 1, 1)), ("lack", (1, 2, 0))))

    def test_at_all_givings(self):
        for tops in SMALL_BOXES:
            rows = all_below(tops)
            for pledge in PLEDGES:
                for step in (1, 3, 4):
                    least = least_among([row for row in rows if owed_at(pledge, row) >= step])
                    most = most_among([row for row in rows if owed_at(pledge, row) < step])
                    for giving in rows:
                        self.look(pledge, step, giving, tops, least, most)

    def test_free_and_never(self):
        for tops in SMALL_BOXES + JUST_4096:
            noughts = (0,) * len(tops)
            for giving in (noughts, tops):
                self.assertEqual(paper(((4, FREE),), 4, giving, tops), ("want", noughts))
                self.assertEqual(paper(((4, FREE),), 5, giving, tops), ("lack", tops))
                self.assertEqual(paper(((4, NEVER),), 1, giving, tops), ("lack", tops))

    def test_givings_that_are_not_in_the_box(self):
        tops = (3, 0, 2)
        wrong = (
            (4, 0, 0), (0, 1, 0), (0, 0, 3), (9, 9, 9), (HUGE, 0, 0), (-1, 0, 0), (0, 0, -1), (0, 0, -HUGE),
            (), (0,), (0, 0), (3, 0), (0, 0, 0, 0), (3, 0, 2, 0), (0,) * 12, (0,) * 13,
        )
        for giving in wrong:
            for pledge in (((1, FREE),), ((1, NEVER),), ((1, ("gives", 2, 1)),)):
                with self.assertRaises(BadGiving):
                    paper(pledge, 1, giving, tops)

    def test_too_many_ahead_of_bad_giving(self):
        for tops in TOO_LARGE:
            noughts = (0,) * len(tops)
            for giving in (noughts, tops, (), (0,) * (len(tops) - 1), noughts + (0,), (10,) + noughts[1:]):
                for pledge in (((1, FREE),), ((1, NEVER),)):
                    with self.assertRaises(TooMany):
                        paper(pledge, 1, giving, tops)

    def test_bad_giving_beside_a_box_of_just_4096(self):
        for tops in JUST_4096:
            with self.assertRaises(BadGiving):
                paper(((1, FREE),), 1, tops[:-1] + (9,), tops)


class StrongerPartedTest(unittest.TestCase):
    def test_written_ones(self):
        tops = (0, 3)
        low, high = ((2, ("gives", 1, 1)),), ((2, ("gives", 1, 1)), (5, ("gives", 1, 3)))
        late, more = ((2, ("gives", 1, 2)),), ((4, ("gives", 1, 2)),)
        for one, other, told, back, first in (
            (high, low, True, False, (0, 3)), (low, late, True, False, (0, 1)), (low, more, False, False, (0, 1)),
            (more, late, True, False, (0, 2)), (((9, FREE),), high, True, False, (0, 0)),
            (high, ((3, NEVER),), True, False, (0, 1)), (low, low, True, True, None),
            (((3, NEVER),), ((7, ("gives", 1, 4)),), True, True, None),
        ):
            self.assertIs(stronger(one, other, tops), told, (one, other))
            self.assertIs(stronger(other, one, tops), back, (one, other))
            self.assertEqual(parted(one, other, tops), first)
            self.assertEqual(parted(other, one, tops), first)

    def test_otherwise_written_but_not_parted(self):
        tops = (0, 3)
        one, other = ((1, FREE), (2, ("gives", 1, 1)), (3, ("gives", 1, 1))), ((1, FREE), (3, ("crowd", (1,), 1, 1)))
        self.assertIsNone(parted(one, other, tops))
        self.assertIsNone(parted(other, one, tops))
        self.assertIs(stronger(one, other, tops), True)
        self.assertIs(stronger(other, one, tops), True)

    def test_in_the_box_alone(self):
        one, other = ((2, ("gives", 1, 1)),), ((2, ("gives", 1, 1)), (5, ("gives", 1, 3)))
        for top in range(10):
            self.assertIs(stronger(one, other, (0, top)), top < 3)
            self.assertEqual(parted(one, other, (0, top)), None if top < 3 else (0, 3))

    def test_by_a_look_at_all_givings(self):
        for tops in SMALL_BOXES:
            rows = all_below(tops)
            owed = {pledge: [owed_at(pledge, row) for row in rows] for pledge in PLEDGES}
            for one, other in itertools.product(PLEDGES, PLEDGES):
                pairs = list(zip(owed[one], owed[other]))
                unlike = [row for row, (mine, yours) in zip(rows, pairs) if mine != yours]
                self.assertIs(stronger(one, other, tops), all(mine >= yours for mine, yours in pairs))
                self.assertEqual(parted(one, other, tops), unlike[0] if unlike else None)

    def test_with_itself(self):
        for tops in SMALL_BOXES:
            for pledge in PLEDGES:
                self.assertIs(stronger(pledge, pledge, tops), True)
                self.assertIsNone(parted(pledge, pledge, tops))

    def test_just_4096_givings(self):
        last = ((1, ("sum", tuple(range(1, 12)), 11)),)
        tops = (1,) * 12
        self.assertEqual(parted(last, ((1, NEVER),), tops), (0,) + (1,) * 11)
        self.assertIs(stronger(last, ((1, NEVER),), tops), True)
        self.assertIs(stronger(((1, NEVER),), last, tops), False)
        end = ((1, ("sum", (1, 2, 3), 21)),)
        self.assertEqual(parted(end, ((1, NEVER),), (7, 7, 7, 7)), (0, 7, 7, 7))

    def test_too_many(self):
        for tops in TOO_LARGE:
            for one, other in itertools.product((((1, FREE),), ((1, NEVER),)), repeat=2):
                for ask in (stronger, parted):
                    with self.assertRaises(TooMany):
                        ask(one, other, tops)


if __name__ == "__main__":
    unittest.main()
