"""Points 2, 4, 6, 8 and 9 and the interface's section of loveboon/wants.py."""

import itertools
import unittest

from loveboon.errors import TooMany
from loveboon.terms import is_term
from loveboon.wants import alike, apart, both, either, lacks, lacks_of, wants, wants_of
from tests.looks import (
    FREE, JUST_4096, NEVER, SMALL_BOXES, TERMS, TOO_LARGE, Maker, all_below, is_above, least_among, met_at, most_among,
)


def made_terms():
    """Terms of three folk beside the written ones."""
    maker = Maker(8)
    return tuple(maker.term([0, 1, 2], 4, 4) for _ in range(60))


ALL_TERMS = TERMS + made_terms()


class WantsAndLacksTest(unittest.TestCase):
    def test_the_looked_at_ones_are_terms(self):
        for term in ALL_TERMS:
            self.assertIs(is_term(3, term), True, term)

    def test_free_and_never(self):
        for tops in SMALL_BOXES + JUST_4096 + ((0,), (9,), (0,) * 12):
            noughts = (0,) * len(tops)
            self.assertEqual(wants(FREE, tops), [noughts])
            self.assertEqual(lacks(FREE, tops), [])
            self.assertEqual(wants(NEVER, tops), [])
            self.assertEqual(lacks(NEVER, tops), [tops])

    def test_written_ones(self):
        tops = (3, 2)
        for term, least, most in (
            (("gives", 0, 2), [(2, 0)], [(1, 2)]),
            (("gives", 1, 2), [(0, 2)], [(3, 1)]),
            (("gives", 1, 3), [], [(3, 2)]),
            (("sum", (0, 1), 3), [(1, 2), (2, 1), (3, 0)], [(0, 2), (1, 1), (2, 0)]),
            (("sum", (0, 1), 5), [(3, 2)], [(2, 2), (3, 1)]),
            (("sum", (0, 1), 6), [], [(3, 2)]),
            (("crowd", (0, 1), 1, 1), [(0, 1), (1, 0)], [(0, 0)]),
            (("crowd", (0, 1), 2, 2), [(2, 2)], [(1, 2), (3, 1)]),
            (("crowd", (0, 1), 1, 3), [], [(3, 2)]),
            (("all", (("gives", 0, 1), ("gives", 1, 1))), [(1, 1)], [(0, 2), (3, 0)]),
            (("any", (("gives", 0, 3), ("gives", 1, 1))), [(0, 1), (3, 0)], [(2, 0)]),
        ):
            self.assertEqual(wants(term, tops), least, term)
            self.assertEqual(lacks(term, tops), most, term)

    def test_by_a_look_at_all_givings(self):
        for tops in SMALL_BOXES:
            rows = all_below(tops)
            for term in ALL_TERMS:
                there = [row for row in rows if met_at(term, row)]
                missing = [row for row in rows if not met_at(term, row)]
                self.assertEqual(wants(term, tops), least_among(there), (term, tops))
                self.assertEqual(lacks(term, tops), most_among(missing), (term, tops))

    def test_just_one_of_both_at_each_giving(self):
        for tops in SMALL_BOXES:
            for term in ALL_TERMS:
                least, most = wants(term, tops), lacks(term, tops)
                for row in all_below(tops):
                    over = any(is_above(row, one) for one in least)
                    under = any(is_above(one, row) for one in most)
                    self.assertNotEqual(over, under, (term, tops, row))
                    self.assertEqual(over, met_at(term, row))

    def test_one_of_the_folk(self):
        self.assertEqual(wants(("gives", 0, 4), (9,)), [(4,)])
        self.assertEqual(lacks(("gives", 0, 4), (9,)), [(3,)])
        self.assertEqual(wants(("gives", 0, 1), (0,)), [])
        self.assertEqual(lacks(("gives", 0, 1), (0,)), [(0,)])

    def test_just_4096_givings(self):
        six_of_twelve = [
            tuple(int(one in crowd) for one in range(12)) for crowd in itertools.combinations(range(12), 6)
        ]
        five_of_twelve = [
            tuple(int(one in crowd) for one in range(12)) for crowd in itertools.combinations(range(12), 5)
        ]
        term = ("crowd", tuple(range(12)), 1, 6)
        self.assertEqual(wants(term, (1,) * 12), sorted(six_of_twelve))
        self.assertEqual(lacks(term, (1,) * 12), sorted(five_of_twelve))
        rows = all_below((7, 7, 7, 7))
        for least in (1, 10, 27, 28):
            term = ("sum", (0, 1, 2, 3), least)
            self.assertEqual(wants(term, (7, 7, 7, 7)), [row for row in rows if sum(row) == least])
            self.assertEqual(lacks(term, (7, 7, 7, 7)), [row for row in rows if sum(row) == least - 1])
        self.assertEqual(wants(("gives", 5, 3), (3,) * 6), [(0, 0, 0, 0, 0, 3)])
        self.assertEqual(lacks(("gives", 5, 3), (3,) * 6), [(3, 3, 3, 3, 3, 2)])

    def test_too_many(self):
        for tops in TOO_LARGE:
            for term in (FREE, NEVER, ("gives", 0, 1)):
                for ask in (wants, lacks):
                    with self.assertRaises(TooMany):
                        ask(term, tops)

    def test_what_is_told_is_the_askers_own(self):
        term = ("sum", (0, 1), 2)
        for ask, answer in ((wants, [(0, 2), (1, 1), (2, 0)]), (lacks, [(0, 1), (1, 0)])):
            told = ask(term, (2, 2))
            self.assertIs(type(told), list)
            told.reverse()
            told.append((9, 9))
            self.assertEqual(ask(term, (2, 2)), answer)


class OneOfTheOtherTest(unittest.TestCase):
    def test_empty_lists(self):
        for tops in SMALL_BOXES + ((0,), (9,), (1,) * 12):
            self.assertEqual(lacks_of([], tops), [tops])
            self.assertEqual(wants_of([], tops), [(0,) * len(tops)])

    def test_of_the_least_and_of_the_greatest(self):
        for tops in SMALL_BOXES + ((0,), (9,), (1,) * 12):
            noughts = (0,) * len(tops)
            self.assertEqual(lacks_of([noughts], tops), [])
            self.assertEqual(wants_of([tops], tops), [])

    def test_written_ones(self):
        self.assertEqual(lacks_of([(1, 2), (3, 0)], (3, 2)), [(0, 2), (2, 1)])
        self.assertEqual(wants_of([(0, 2), (2, 1)], (3, 2)), [(1, 2), (3, 0)])
        self.assertEqual(lacks_of([(3, 2)], (3, 2)), [(2, 2), (3, 1)])
        self.assertEqual(wants_of([(0, 0)], (3, 2)), [(0, 1), (1, 0)])

    def test_twice_and_in_any_order(self):
        for rows in itertools.permutations([(1, 2), (3, 0), (1, 2), (3, 1)]):
            self.assertEqual(lacks_of(list(rows), (3, 2)), [(0, 2), (2, 1)])
        for rows in itertools.permutations([(0, 2), (2, 1), (2, 0), (0, 2)]):
            self.assertEqual(wants_of(list(rows), (3, 2)), [(1, 2), (3, 0)])

    def test_of_all_lists_out_of_a_box_and_back(self):
        tops = (2, 1, 1)
        rows = all_below(tops)
        for chosen in range(2 ** len(rows)):
            some = [row for at, row in enumerate(rows) if chosen >> at & 1]
            under = [row for row in rows if not any(is_above(row, one) for one in some)]
            over = [row for row in rows if not any(is_above(one, row) for one in some)]
            mixed = some[1::2] + some[::2]
            told_lacks, told_wants = lacks_of(mixed, tops), wants_of(mixed, tops)
            self.assertEqual(told_lacks, most_among(under))
            self.assertEqual(told_wants, least_among(over))
            self.assertEqual(wants_of(told_lacks, tops), least_among(some))
            self.assertEqual(lacks_of(told_wants, tops), most_among(some))

    def test_of_terms_and_back(self):
        for tops in SMALL_BOXES:
            for term in ALL_TERMS:
                self.assertEqual(lacks_of(wants(term, tops), tops), lacks(term, tops), (term, tops))
                self.assertEqual(wants_of(lacks(term, tops), tops), wants(term, tops), (term, tops))

    def test_just_4096_givings(self):
        rows = all_below((7, 7, 7, 7))
        least = [row for row in rows if sum(row) == 9]
        most = [row for row in rows if sum(row) == 8]
        self.assertEqual(lacks_of(least, (7, 7, 7, 7)), most)
        self.assertEqual(wants_of(most, (7, 7, 7, 7)), least)
        self.assertEqual(lacks_of([(1,) * 12], (1,) * 12), [(1,) * at + (0,) + (1,) * (11 - at) for at in range(12)])
        self.assertEqual(
            wants_of([(0,) * 12], (1,) * 12), sorted((0,) * at + (1,) + (0,) * (11 - at) for at in range(12))
        )

    def test_too_many(self):
        for tops in TOO_LARGE:
            for rows in ([], [(0,) * len(tops)], [tops]):
                for ask in (lacks_of, wants_of):
                    with self.assertRaises(TooMany):
                        ask(rows, tops)

    def test_handed_lists_stay_and_told_ones_are_the_askers_own(self):
        for ask, answer in ((lacks_of, [(0, 2), (2, 0)]), (wants_of, [(0, 2), (2, 0)])):
            rows = [(1, 1), (1, 1)]
            told = ask(rows, (2, 2))
            self.assertIs(type(told), list)
            self.assertEqual(told, answer)
            self.assertEqual(rows, [(1, 1), (1, 1)])
            told.clear()
            told.append((0, 0))
            self.assertEqual(rows, [(1, 1), (1, 1)])
            self.assertEqual(ask(rows, (2, 2)), answer)
            mixed = [(2, 1), (0, 2), (2, 1), (1, 2)]
            ask(mixed, (2, 2))
            self.assertEqual(mixed, [(2, 1), (0, 2), (2, 1), (1, 2)])


class BothEitherTest(unittest.TestCase):
    def test_written_ones(self):
        one, other = [(0, 3), (2, 1)], [(1, 0)]
        self.assertEqual(both(one, other), [(1, 3), (2, 1)])
        self.assertEqual(either(one, other), [(0, 3), (1, 0)])
        self.assertEqual(both([(0, 2), (2, 0)], [(0, 1), (1, 0)]), [(0, 2), (2, 0)])
        self.assertEqual(either([(0, 2), (2, 0)], [(1, 1)]), [(0, 2), (1, 1), (2, 0)])
        self.assertEqual(both([(0, 2), (2, 0)], [(1, 1)]), [(1, 2), (2, 1)])

    def test_empty_lists(self):
        rows = [(0, 3), (2, 1)]
        self.assertEqual(both([], []), [])
        self.assertEqual(either([], []), [])
        for told in (both(rows, []), both([], rows)):
            self.assertEqual(told, [])
        for told in (either(rows, []), either([], rows)):
            self.assertEqual(told, rows)

    def test_of_terms_either_way_round(self):
        for tops in ((2, 0, 1), (3, 2, 3)):
            rows = all_below(tops)
            for one, other in itertools.product(TERMS, TERMS):
                least, beside = wants(one, tops), wants(other, tops)
                of_all = least_among([row for row in rows if met_at(one, row) and met_at(other, row)])
                of_any = least_among([row for row in rows if met_at(one, row) or met_at(other, row)])
                self.assertEqual(both(least, beside), of_all, (one, other, tops))
                self.assertEqual(both(beside, least), of_all, (one, other, tops))
                self.assertEqual(either(least, beside), of_any, (one, other, tops))
                self.assertEqual(either(beside, least), of_any, (one, other, tops))

    def test_as_the_terms_of_both_are_told(self):
        for tops in ((1, 1, 1), (2, 4, 1)):
            for one, other in zip(ALL_TERMS, ALL_TERMS[7:]):
                least, beside = wants(one, tops), wants(other, tops)
                self.assertEqual(both(least, beside), wants(("all", (one, other)), tops))
                self.assertEqual(either(least, beside), wants(("any", (one, other)), tops))

    def test_the_same_twice(self):
        for tops in SMALL_BOXES:
            for term in ALL_TERMS:
                rows = wants(term, tops)
                self.assertEqual(both(rows, rows), rows)
                self.assertEqual(either(rows, rows), rows)
                self.assertEqual(both(rows, list(rows)), rows)

    def test_in_a_box_of_any_size(self):
        least = [(0, 9) * 6, (9, 0) * 6]
        self.assertEqual(both(least, [(1,) * 12]), [(1, 9) * 6, (9, 1) * 6])
        self.assertEqual(either(least, [(1,) * 12]), [(0, 9) * 6, (1,) * 12, (9, 0) * 6])

    def test_lists_of_a_box_of_just_4096(self):
        def of_twelve(many):
            return sorted(tuple(int(k in c) for k in range(12)) for c in itertools.combinations(range(12), many))
        self.assertEqual(both(of_twelve(2), of_twelve(10)), of_twelve(10))
        self.assertEqual(either(of_twelve(2), of_twelve(10)), of_twelve(2))

    def test_handed_lists_stay_and_told_ones_are_the_askers_own(self):
        for ask in (both, either):
            for one, other in (([(0, 3), (2, 1)], [(1, 0)]), ([(0, 3)], []), ([], [(0, 3)])):
                handed, beside = list(one), list(other)
                answer = list(ask(handed, beside))
                told = ask(handed, beside)
                self.assertIs(type(told), list)
                self.assertEqual((handed, beside), (one, other))
                told.append((0, 0))
                told.reverse()
                self.assertEqual((handed, beside), (one, other))
                self.assertEqual(ask(handed, beside), answer)
            same = [(0, 3), (2, 1)]
            ask(same, same).append((0, 0))
            self.assertEqual(same, [(0, 3), (2, 1)])


class AlikeApartTest(unittest.TestCase):
    def test_written_ones(self):
        one, other = ("gives", 0, 2), ("gives", 0, 3)
        for tops, first in (((1, 4), None), ((2, 4), (2, 0)), ((3, 4), (2, 0)), ((9, 0), (2, 0))):
            self.assertEqual(apart(one, other, tops), first)
            self.assertEqual(apart(other, one, tops), first)
            self.assertIs(alike(one, other, tops), first is None)
            self.assertIs(alike(other, one, tops), first is None)

    def test_otherwise_written_but_alike(self):
        tops = (3, 3, 3)
        for one, other in (
            (("gives", 1, 2), ("crowd", (1,), 2, 1)),
            (FREE, ("any", (FREE, NEVER))),
            (NEVER, ("sum", (0, 1), 7)),
            (NEVER, ("gives", 0, 4)),
            (("crowd", (0, 1), 1, 1), ("sum", (0, 1), 1)),
            (("crowd", (0, 1), 3, 2), ("sum", (0, 1), 6)),
            (("all", (("gives", 0, 1), ("gives", 2, 2))), ("all", (("gives", 2, 2), ("gives", 0, 1)))),
        ):
            self.assertIs(alike(one, other, tops), True)
            self.assertIs(alike(other, one, tops), True)
            self.assertIsNone(apart(one, other, tops))
            self.assertIsNone(apart(other, one, tops))

    def test_apart_at_the_least_and_at_the_greatest_alone(self):
        some = ("sum", (0, 1, 2), 1)
        for tops in ((1, 1, 1), (3, 0, 2)):
            self.assertEqual(apart(FREE, some, tops), (0, 0, 0))
            self.assertIs(alike(FREE, some, tops), False)
            every = ("sum", (0, 1, 2), sum(tops))
            self.assertEqual(apart(NEVER, every, tops), tops)
            self.assertIs(alike(every, NEVER, tops), False)

    def test_by_a_look_at_all_givings(self):
        for tops in SMALL_BOXES:
            rows = all_below(tops)
            for one, other in itertools.product(TERMS, ALL_TERMS[5:45]):
                unlike = [row for row in rows if met_at(one, row) != met_at(other, row)]
                first = unlike[0] if unlike else None
                self.assertEqual(apart(one, other, tops), first, (one, other, tops))
                self.assertIs(alike(one, other, tops), not unlike, (one, other, tops))

    def test_alike_just_where_the_least_wants_are_the_same(self):
        for tops in ((1, 1, 1), (2, 0, 1)):
            for one, other in itertools.product(TERMS, ALL_TERMS):
                self.assertIs(alike(one, other, tops), wants(one, tops) == wants(other, tops))

    def test_with_itself(self):
        for tops in SMALL_BOXES:
            for term in ALL_TERMS:
                self.assertIs(alike(term, term, tops), True)
                self.assertIsNone(apart(term, term, tops))

    def test_just_4096_givings(self):
        crowd = tuple(range(12))
        self.assertEqual(apart(("sum", crowd, 12), NEVER, (1,) * 12), (1,) * 12)
        self.assertIs(alike(("sum", crowd, 12), ("crowd", crowd, 1, 12), (1,) * 12), True)
        self.assertIs(alike(("gives", 0, 8), NEVER, (7, 7, 7, 7)), True)
        self.assertEqual(apart(("gives", 0, 7), NEVER, (7, 7, 7, 7)), (7, 0, 0, 0))

    def test_too_many(self):
        for tops in TOO_LARGE:
            for one, other in ((FREE, FREE), (FREE, NEVER), (("gives", 0, 1), ("gives", 0, 2))):
                for ask in (alike, apart):
                    with self.assertRaises(TooMany):
                        ask(one, other, tops)


if __name__ == "__main__":
    unittest.main()
