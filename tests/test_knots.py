"""Points 2, 16 and 17 and the interface's section of loveboon/knots.py."""

import copy
import itertools
import unittest

from loveboon.between import risen
from loveboon.knots import alone, climb, is_knot, knots
from loveboon.rounds import greatest, kept, least
from tests.books import (
    BOOKS, CHAIN, KNOT, LAID, TIED, Look, chain, crowds_of, nobody, renumbered, rings, so_many,
)
from tests.looks import FREE, due_at, is_above

SMALL = LAID + TIED + [pair for pair in BOOKS if len(pair[1]) < 4][:40]


def by_steps(many, step, *crowds):
    """The giving of so many folk in which those of the crowds give the step, all others nothing."""
    given = [one for crowd in crowds for one in crowd]
    return tuple(step if one in given else 0 for one in range(many))


def pledged_for_rings(many, crowds, needed):
    """Rings, and each of all others gives 2 if so many of those in rings do."""
    book = rings(many, *crowds)
    within = tuple(sorted(one for crowd in crowds for one in crowd))
    for one in range(many):
        if one not in within:
            book[one].append(((2, ("crowd", within, 2, needed)),))
    return book


class AloneTest(unittest.TestCase):
    def test_written_ones(self):
        self.assertEqual(alone(KNOT, (0, 0), []), (0, 0))
        self.assertEqual(alone(KNOT, (0, 0), [0]), (0, 0))
        self.assertEqual(alone(KNOT, (0, 0), [1]), (0, 0))
        self.assertEqual(alone(KNOT, (0, 0), [0, 1]), (2, 2))
        self.assertEqual(alone(KNOT, (1, 0), []), (1, 1))
        self.assertEqual(alone(KNOT, (1, 0), [0, 1]), (2, 2))

    def test_others_give_their_sure_steps_though_more_is_due(self):
        # 2 gives 2 where 0 and 1 do.
        book = pledged_for_rings(3, [(0, 1)], 2)
        self.assertEqual(alone(book, (0, 0, 0), [0, 1]), (2, 2, 0))
        self.assertEqual(alone(book, (0, 0, 0), [0, 1, 2]), (2, 2, 2))
        self.assertEqual(alone(book, (0, 0, 0), [0, 2]), (0, 0, 0))

    def test_the_sure_giving_and_not_the_floor(self):
        self.assertEqual(alone(CHAIN, (0, 0, 0), []), (2, 1, 0))
        self.assertEqual(alone(CHAIN, (0, 0, 0), [0, 1, 2]), (2, 1, 0))
        self.assertEqual(alone(chain(12), (0,) * 12, []), tuple(min(one + 1, 9) for one in range(12)))

    def test_steps_in_between(self):
        # Together up to 3; with 2 put off just 1.
        book = [[((1, ("gives", 1, 1)), (3, ("all", (("gives", 1, 3), ("gives", 2, 3)))))],
                [((1, ("gives", 0, 1)), (3, ("gives", 0, 3)))], [((3, ("gives", 0, 3)),)]]
        self.assertEqual(alone(book, (0, 0, 0), [0, 1]), (1, 1, 0))
        self.assertEqual(alone(book, (0, 0, 0), [0, 1, 2]), (3, 3, 3))
        self.assertEqual(knots(book, (0, 0, 0)), [[0, 1]])
        self.assertEqual(climb(book, (0, 0, 0)), [([0, 1], (1, 1, 0)), ([0, 1, 2], (3, 3, 3))])

    def test_every_crowd_by_a_look_at_all_givings(self):
        more = 0
        for book, floor in SMALL:
            look = Look(book, floor)
            for crowd in look.crowds:
                told = alone(book, floor, crowd)
                self.assertIs(type(told), tuple)
                self.assertEqual(told, look.alone(crowd), (book, floor, crowd))
                more += told != least(book, floor)
            self.assertEqual(alone(book, floor, []), least(book, floor))
            self.assertEqual(alone(book, floor, list(range(len(floor)))), greatest(book, floor))
        self.assertGreater(more, 100)

    def test_twelve_folk(self):
        pairs = [(at, at + 6) for at in range(6)]
        book = rings(12, *pairs, step=9)
        for crowds in crowds_of(range(6)):
            crowd = sorted(one for at in crowds for one in pairs[at])
            self.assertEqual(alone(book, (0,) * 12, crowd), by_steps(12, 9, crowd))
            self.assertEqual(alone(book, (0,) * 12, crowd[:-1]), by_steps(12, 9, *[
                pair for pair in pairs if set(pair) <= set(crowd[:-1])
            ]))


class IsKnotTest(unittest.TestCase):
    def test_written_ones(self):
        self.assertIs(is_knot(KNOT, (0, 0), []), False)
        self.assertIs(is_knot(KNOT, (0, 0), [0]), False)
        self.assertIs(is_knot(KNOT, (0, 0), [0, 1]), True)
        self.assertIs(is_knot(KNOT, (2, 0), [0, 1]), False)
        book = rings(4, (0, 1), (2, 3))
        self.assertIs(is_knot(book, (0,) * 4, [0, 1]), True)
        self.assertIs(is_knot(book, (0,) * 4, [0, 1, 2]), False)
        self.assertIs(is_knot(book, (0,) * 4, [0, 1, 2, 3]), False)
        self.assertIs(is_knot(book, (0,) * 4, [0, 2]), False)

    def test_every_crowd_by_a_look_at_all_crowds(self):
        for book, floor in SMALL:
            all_knots = Look(book, floor).knots()
            for crowd in crowds_of(range(len(floor))):
                self.assertIs(is_knot(book, floor, crowd), crowd in all_knots, (book, floor, crowd))


class KnotsTest(unittest.TestCase):
    def test_none(self):
        self.assertEqual(knots(CHAIN, (0, 0, 0)), [])
        self.assertEqual(knots(nobody(1), (0,)), [])
        self.assertEqual(knots(nobody(12), (9,) * 12), [])
        self.assertEqual(knots(chain(12), (0,) * 12), [])
        self.assertEqual(knots(KNOT, (2, 0)), [])

    def test_by_a_look_at_all_crowds(self):
        counts = [0, 0]
        for book, floor in SMALL:
            told = knots(book, floor)
            self.assertIs(type(told), list)
            self.assertEqual(told, Look(book, floor).knots(), (book, floor))
            for knot in told:
                self.assertIs(type(knot), list)
                self.assertEqual(knot, sorted(set(knot)))
                self.assertFalse(any(set(other) < set(knot) for other in told))
            counts[0] += len(told) > 0
            counts[1] += len(told) > 1
        self.assertGreater(min(counts), 10)

    def test_nobody_is_a_knot_alone(self):
        # What others give is all that one's pledges hang on: who holds more alone would owe it for sure.
        for book, floor in SMALL:
            self.assertFalse(any(len(knot) < 2 for knot in knots(book, floor)))

    def test_rings(self):
        for many in range(2, 5):
            for crowd in itertools.permutations(range(many)):
                self.assertEqual(knots(rings(many, crowd), (0,) * many), [list(range(many))])
            for lies in range(many):
                floor = by_steps(many, 2, [lies])
                self.assertEqual(knots(rings(many, tuple(range(many))), floor), [])
                self.assertEqual(knots(rings(many, tuple(range(many)), step=3), floor), [list(range(many))])

    def test_several_rings(self):
        self.assertEqual(knots(rings(5, (1, 4), (3, 0)), (0,) * 5), [[0, 3], [1, 4]])
        self.assertEqual(knots(rings(9, (2, 1, 0), (8, 6), (3, 7, 5, 4)), (0,) * 9), [[0, 1, 2], [3, 4, 5, 7], [6, 8]])
        self.assertEqual(knots(rings(3, (0, 1), (1, 2)), (0,) * 3), [[0, 1], [1, 2]])
        self.assertEqual(knots(rings(3, (0, 1), (0, 1, 2)), (0,) * 3), [[0, 1]])

    def test_in_order_as_lists_are(self):
        told = knots(rings(12, (2, 10), (0, 11), (1, 3, 5), (1, 2), (0, 4, 9)), (0,) * 12)
        self.assertEqual(told, [[0, 4, 9], [0, 11], [1, 2], [1, 3, 5], [2, 10]])

    def test_a_ring_in_which_somebody_gives_freely(self):
        for many in range(2, 5):
            for free in range(many):
                book = rings(many, tuple(range(many)))
                book[free].append(((2, FREE),))
                self.assertEqual(knots(book, (0,) * many), [])
                book[free][-1] = ((1, FREE),)
                self.assertEqual(knots(book, (0,) * many), [list(range(many))])

    def test_folk_who_pledge_for_so_many_of_those_in_rings(self):
        for needed in range(1, 5):
            book = pledged_for_rings(6, [(0, 3), (1, 4)], needed)
            self.assertEqual(knots(book, (0,) * 6), [[0, 3], [1, 4]])
        # 2 gives for two of those in rings, and each ring waits for 2.
        book = pledged_for_rings(5, [(0, 3), (1, 4)], 2)
        for one in (0, 1):
            book[one] = [((2, ("all", (book[one][0][0][1], ("gives", 2, 2)))),)]
        self.assertEqual(knots(book, (0,) * 5), [[0, 2, 3], [1, 2, 4]])

    def test_so_many_of_the_others(self):
        for many in range(2, 13):
            for needed in range(1, many):
                if many > 9 and 2 < needed < many - 3:
                    continue
                told = knots(so_many(many, needed), (0,) * many)
                self.assertEqual(told, [list(crowd) for crowd in itertools.combinations(range(many), needed + 1)])

    def test_renumbered(self):
        for book, floor in SMALL[:40]:
            many = len(floor)
            for row in itertools.permutations(range(many)):
                there, lies = renumbered(book, floor, row)
                crowds = sorted(sorted(row[one] for one in knot) for knot in knots(book, floor))
                self.assertEqual(knots(there, lies), crowds)

    def test_renumbered_large_ones(self):
        book = pledged_for_rings(12, [(0, 1), (2, 3, 4), (5, 6, 7, 8)], 5)
        self.assertEqual(knots(book, (0,) * 12), [[0, 1], [2, 3, 4], [5, 6, 7, 8]])
        for row in ([11 - one for one in range(12)], [one * 5 % 12 for one in range(12)]):
            there, lies = renumbered(book, (0,) * 12, row)
            crowds = sorted(sorted(row[one] for one in knot) for knot in ([0, 1], [2, 3, 4], [5, 6, 7, 8]))
            self.assertEqual(knots(there, lies), crowds)


class ClimbTest(unittest.TestCase):
    def test_empty_ones(self):
        self.assertEqual(climb(CHAIN, (0, 0, 0)), [])
        self.assertEqual(climb(nobody(12), (0,) * 12), [])
        self.assertEqual(climb(KNOT, (2, 0)), [])

    def test_written_ones(self):
        self.assertEqual(climb(KNOT, (0, 0)), [([0, 1], (2, 2))])
        self.assertEqual(climb(rings(4, (0, 2), (1, 3)), (0,) * 4), [([0, 2], (2, 0, 2, 0)), ([1, 3], (2, 2, 2, 2))])
        # What then comes lies there, too.
        self.assertEqual(climb(pledged_for_rings(5, [(0, 3), (1, 4)], 2), (0,) * 5),
                         [([0, 3], (2, 0, 2, 2, 0)), ([1, 4], (2,) * 5)])
        self.assertEqual(climb(pledged_for_rings(5, [(0, 3), (1, 4)], 3), (0,) * 5),
                         [([0, 3], (2, 0, 0, 2, 0)), ([1, 4], (2,) * 5)])

    def test_a_knot_that_comes_by_another_one(self):
        # 2 and 3 are a ring only where 0 gives; 4 gives freely at last.
        book = rings(5, (0, 1), (2, 3))
        book[2] = [((2, ("all", (("gives", 3, 2), ("gives", 0, 2)))),)]
        book[4].append(((1, ("gives", 2, 2)),))
        self.assertEqual(knots(book, (0,) * 5), [[0, 1]])
        self.assertEqual(climb(book, (0,) * 5), [([0, 1], (2, 2, 0, 0, 0)), ([2, 3], (2, 2, 2, 2, 1))])

    def test_nine_steps(self):
        # Each next step of 0 and 1 hangs on 2, who gives it where both gave the one ahead.
        book = [
            [tuple((step, ("all", (("gives", 1, step), ("gives", 2, step - 1)) if step > 1 else (
                ("gives", 1, 1), FREE))) for step in range(1, 10))],
            [tuple((step, ("gives", 0, step)) for step in range(1, 10))],
            [tuple((step, ("gives", 1, step)) for step in range(1, 10))],
        ]
        # 0, 1 and 2 hold all together, but 0 and 1 are the knot.
        self.assertEqual(climb(book, (0, 0, 0)), [([0, 1], (step,) * 3) for step in range(1, 10)])

    def look_at_a_climb(self, book, floor):
        lies = least(book, floor)
        pairs = climb(book, floor)
        self.assertIs(type(pairs), list)
        for pair in pairs:
            self.assertIs(type(pair), tuple)
            knot, giving = pair
            self.assertEqual(knot, knots(book, lies)[0])
            gives = alone(book, lies, knot)
            self.assertTrue(is_above(due_at(book, lies, gives), gives))
            lies = risen(book, lies, gives)
            self.assertEqual(giving, lies)
        self.assertEqual(knots(book, lies), [])
        self.assertEqual(lies, greatest(book, floor))
        return len(pairs)

    def test_knot_by_knot(self):
        self.assertGreater(max(self.look_at_a_climb(book, floor) for book, floor in SMALL), 1)

    def test_every_other_choice_ends_with_the_greatest(self):
        for book, floor in LAID:
            ahead = [least(book, floor)]
            while ahead:
                lies = ahead.pop()
                some = knots(book, lies)
                if not some:
                    self.assertEqual(lies, greatest(book, floor))
                ahead.extend(risen(book, lies, alone(book, lies, knot)) for knot in some)

    def test_nine_to_twelve_folk(self):
        for many in range(9, 13):
            book = pledged_for_rings(many, [(0, 5), (1, 6, 2), (3, 8)], 7)
            book[4] = []
            self.assertEqual(knots(book, (0,) * many), [[0, 5], [1, 2, 6], [3, 8]])
            given = [0, 5], [0, 1, 2, 5, 6], [one for one in range(many) if one != 4]
            self.assertEqual(
                climb(book, (0,) * many),
                list(zip(([0, 5], [1, 2, 6], [3, 8]), [by_steps(many, 2, crowd) for crowd in given])),
            )
            self.assertEqual(climb(so_many(many, 3, 9), (0,) * many), [([0, 1, 2, 3], (9,) * many)])
            crowd = list(range(many))
            self.assertEqual(climb(so_many(many, many - 1), (0,) * many), [(crowd, (1,) * many)])
            self.look_at_a_climb(book, (1,) * many)


class HandedAndToldTest(unittest.TestCase):
    def test_handed_books_and_crowds_stay(self):
        for book, floor in LAID:
            before = copy.deepcopy(book)
            for crowd in crowds_of(range(len(floor))):
                handed = list(crowd)
                alone(book, floor, handed)
                is_knot(book, floor, handed)
                self.assertEqual(handed, crowd)
            knots(book, floor)
            climb(book, floor)
            self.assertEqual(book, before)

    def test_told_lists_and_those_within_are_the_askers_own(self):
        book = rings(4, (0, 2), (1, 3))
        told = knots(book, (0,) * 4)
        told[0].append(9)
        told.reverse()
        self.assertEqual(knots(book, (0,) * 4), [[0, 2], [1, 3]])
        pairs = climb(book, (0,) * 4)
        pairs[0][0].clear()
        pairs.pop()
        self.assertEqual(climb(book, (0,) * 4), [([0, 2], (2, 0, 2, 0)), ([1, 3], (2, 2, 2, 2))])

    def test_a_changed_book_is_read_anew(self):
        book = rings(3, (0, 1))
        self.assertEqual(knots(book, (0, 0, 0)), [[0, 1]])
        self.assertEqual(alone(book, (0, 0, 0), [0, 2]), (0, 0, 0))
        book[0].append(((3, ("gives", 2, 1)),))
        book[2].append(((1, ("gives", 0, 1)),))
        self.assertEqual(knots(book, (0, 0, 0)), [[0, 1], [0, 2]])
        self.assertEqual(alone(book, (0, 0, 0), [0, 2]), (3, 0, 1))
        self.assertIs(is_knot(book, (0, 0, 0), [0, 2]), True)
        self.assertEqual(climb(book, (0, 0, 0)), [([0, 1], (3, 2, 1))])
        book[1].clear()
        self.assertEqual(knots(book, (0, 0, 0)), [[0, 2]])
        book[0][1] = ((3, FREE),)
        self.assertEqual(climb(book, (0, 0, 0)), [])
        self.assertIs(kept(book, (0, 0, 0), (3, 0, 1)), True)


if __name__ == "__main__":
    unittest.main()
