"""Points 2, 7 and 8 and the interface's section of loveboon/terms.py."""

import itertools
import unittest

from loveboon.terms import depth, holds, is_term, named, renamed

FREE = ("free",)
NEVER = ("never",)
HUGE = 10 ** 39 + 7
ALL_FOLK = tuple(range(12))


def nested(kind, deep):
    """A term just so deep, by one kind of parts."""
    term = ("gives", 0, 1)
    for _ in range(deep - 1):
        term = (kind, (FREE, term))
    return term


# Terms of three folk, of each kind and mixed.
TERMS = (
    FREE,
    NEVER,
    ("gives", 0, 1),
    ("gives", 2, 3),
    ("gives", 1, 9),
    ("sum", (0, 1), 4),
    ("sum", (0, 1, 2), 9),
    ("sum", (1, 2), 99),
    ("crowd", (0,), 2, 1),
    ("crowd", (0, 2), 3, 2),
    ("crowd", (0, 1, 2), 2, 2),
    ("crowd", (0, 1, 2), 1, 3),
    ("crowd", (0, 1), 1, 3),
    ("all", (("gives", 0, 2), ("gives", 1, 1))),
    ("any", (("gives", 0, 2), ("gives", 1, 1))),
    ("all", (FREE, FREE)),
    ("all", (FREE, NEVER)),
    ("any", (FREE, NEVER)),
    ("any", (NEVER, NEVER)),
    ("all", (("any", (("gives", 0, 3), ("gives", 2, 1))), ("sum", (0, 1), 3))),
    ("any", (("all", (("any", (NEVER, ("gives", 1, 2))), ("gives", 0, 1))), ("crowd", (1, 2), 3, 2))),
)


def where(term, givings):
    """The set of the givings at which a term holds, reckoned another way."""
    kind, *rest = term
    if kind in ("all", "any"):
        sets = [where(part, givings) for part in rest[0]]
        return set.intersection(*sets) if kind == "all" else set.union(*sets)
    if kind in ("free", "never"):
        return {giving for giving in givings if kind == "free"}
    if kind == "gives":
        return {giving for giving in givings if giving[rest[0]] - rest[1] >= 0}
    if kind == "sum":
        return {giving for giving in givings if sum(step for at, step in enumerate(giving) if at in rest[0]) >= rest[1]}
    return {giving for giving in givings if [giving[one] >= rest[1] for one in rest[0]].count(True) >= rest[2]}


class IsTermTest(unittest.TestCase):
    def yes(self, many, *terms):
        for term in terms:
            self.assertIs(is_term(many, term), True, (many, term))

    def no(self, many, *terms):
        for term in terms:
            self.assertIs(is_term(many, term), False, (many, term))

    def test_free_and_never(self):
        for many in (1, 12):
            self.yes(many, FREE, NEVER)
            self.no(many, ("free", 0), ("never", 0), ("free", ()), ("never", FREE), ("free", "free"))

    def test_no_kinds(self):
        self.no(3, (), ("",), ("Free",), ("free ",), ("FREE",), ("gift", 0, 1), ("none",), (0,), (1, 0, 1))
        self.no(3, ((),), (FREE,), ((FREE,),), (("gives",), 0, 1), ("gives0", 0, 1), ("0", "0", "1"))
        self.no(3, ("al", (FREE, FREE)), ("each", (FREE, FREE)), (0, (FREE, FREE)))

    def test_gives(self):
        self.yes(1, ("gives", 0, 1), ("gives", 0, 9))
        self.yes(12, ("gives", 11, 1), ("gives", 11, 9))
        self.no(1, ("gives", 1, 1))
        self.no(11, ("gives", 11, 1))
        self.no(12, ("gives", 12, 1), ("gives", -1, 1), ("gives", HUGE, 1), ("gives", -HUGE, 1))
        self.no(12, ("gives", 0, 0), ("gives", 0, 10), ("gives", 0, -1), ("gives", 0, HUGE))
        self.no(12, ("gives",), ("gives", 0), ("gives", 0, 1, 1), ("gives", 0, 1, ()))
        self.no(12, ("gives", "0", 1), ("gives", 0, "1"), ("gives", (0,), 1), ("gives", 0, (1,)), ("gives", (), ()))

    def test_each_of_folk_and_steps(self):
        for many, one, step in itertools.product(range(1, 13), range(-2, 15), range(-2, 13)):
            told = 0 <= one < many and 1 <= step <= 9
            self.assertIs(is_term(many, ("gives", one, step)), told)

    def test_sum(self):
        self.yes(2, ("sum", (0, 1), 1), ("sum", (0, 1), 99))
        self.yes(12, ("sum", ALL_FOLK, 99), ("sum", (0, 11), 1))
        self.no(12, ("sum", (), 1), ("sum", (0,), 1))
        self.no(12, ("sum", (0, 1), 0), ("sum", (0, 1), -1), ("sum", (0, 1), 100), ("sum", (0, 1), HUGE))
        self.no(12, ("sum",), ("sum", (0, 1)), ("sum", (0, 1), 1, 1), ("sum", 0, 1, 2))
        self.no(12, ("sum", 0, 1), ("sum", "01", 1), ("sum", (0, 1), "1"), ("sum", (0, 1), (1,)))

    def test_crowd(self):
        self.yes(1, ("crowd", (0,), 1, 1), ("crowd", (0,), 9, 12))
        self.yes(12, ("crowd", ALL_FOLK, 9, 12), ("crowd", (11,), 1, 1), ("crowd", (0, 1), 1, 3))
        self.no(12, ("crowd", (), 1, 1))
        self.no(12, ("crowd", (0,), 0, 1), ("crowd", (0,), 10, 1), ("crowd", (0,), -1, 1), ("crowd", (0,), HUGE, 1))
        self.no(12, ("crowd", (0,), 1, 0), ("crowd", (0,), 1, 13), ("crowd", (0,), 1, -1), ("crowd", (0,), 1, HUGE))
        self.no(12, ("crowd",), ("crowd", (0,)), ("crowd", (0,), 1), ("crowd", (0,), 1, 1, 1))
        self.no(12, ("crowd", 0, 1, 1), ("crowd", "0", 1, 1), ("crowd", (0,), "1", 1), ("crowd", (0,), 1, "1"))
        self.no(12, ("crowd", (0,), (1,), 1), ("crowd", (0,), 1, (1,)), ("crowd", (0,), 1, ()))

    def test_crowds(self):
        for crowd in ((1, 0), (0, 0), (0, 1, 1), (0, 2, 1), (1, 2, 0), (0, 1, 0), (-1, 0), (-2, -1), (0, 3), (2, 3)):
            self.no(3, ("sum", crowd, 1), ("crowd", crowd, 1, 1))
        for crowd in ((0, "1"), ("0", 1), (0, (1,)), ((0, 1), 2), ((), ()), ("", ""), (0, HUGE), (-HUGE, 0)):
            self.no(3, ("sum", crowd, 1), ("crowd", crowd, 1, 1))
        for crowd in ((0, 1), (0, 2), (1, 2), (0, 1, 2)):
            self.yes(3, ("sum", crowd, 1), ("crowd", crowd, 1, 1))
        for many in range(1, 12):
            self.no(many, ("sum", (0, many), 1), ("crowd", (many,), 1, 1))
            self.yes(many + 1, ("sum", (0, many), 1), ("crowd", (many,), 1, 1))

    def test_parts(self):
        for kind in ("all", "any"):
            for many in range(2, 7):
                self.yes(1, (kind, (FREE,) * many))
            for many in (0, 1, 7, 8, 200):
                self.no(1, (kind, (FREE,) * many))
            self.no(1, (kind,), (kind, FREE), (kind, FREE, FREE), (kind, (FREE, FREE), 1), (kind, (FREE, FREE), ()))
            self.no(1, (kind, 2), (kind, "free"), (kind, "ab"), (kind, (1, 2)), (kind, ("free", "free")))

    def test_a_part_that_is_none(self):
        for kind in ("all", "any"):
            for wrong in ((), 0, "free", "", ("gives", 2, 1), ("gives", 0, 0), ("sum", (0,), 1), ("all", (FREE,))):
                self.no(2, (kind, (wrong, FREE)), (kind, (FREE, wrong)), (kind, (FREE,) * 5 + (wrong,)))
                self.no(2, (kind, (FREE, ("all", (FREE, wrong)))), (kind, (("any", (wrong, FREE)), FREE)))

    def test_depth(self):
        for kind in ("all", "any"):
            for deep in (1, 2, 3, 4):
                self.yes(1, nested(kind, deep))
            for deep in (5, 6, 50):
                self.no(1, nested(kind, deep))
            self.yes(1, (kind, (nested("all", 3), nested("any", 3))))
            self.no(1, (kind, (nested("all", 4), FREE)), (kind, (FREE, nested("any", 4))))

    def test_tuples_nested_far_beyond(self):
        for kind in ("all", "any"):
            self.no(1, nested(kind, 5000))
        things = ()
        for _ in range(5000):
            things = (things,)
        self.no(1, things, ("all", things), ("all", (things, FREE)), ("gives", things, 1), ("sum", things, 1))

    def test_true_and_false_are_no_numbers(self):
        self.no(3, ("gives", True, 1), ("gives", False, 1), ("gives", 0, True), ("sum", (False, True), 1))
        self.no(3, ("sum", (0, 1), True), ("crowd", (0, True), 1, 1), ("crowd", (0,), True, 1))
        self.no(3, ("crowd", (0,), 1, True), (True,), ("all", (True, True)))

    def test_terms_of_three_folk(self):
        self.yes(3, *TERMS)
        self.yes(12, *TERMS)


class HoldsTest(unittest.TestCase):
    def told(self, term, *pairs):
        for giving, answer in pairs:
            self.assertIs(holds(term, giving), answer, (term, giving))

    def test_free_and_never(self):
        for giving in ((0,), (9,), (0,) * 12, (9,) * 12, (4, 5)):
            self.told(FREE, (giving, True))
            self.told(NEVER, (giving, False))

    def test_gives(self):
        self.told(("gives", 0, 1), ((0, 9), False), ((1, 0), True), ((9, 0), True))
        self.told(("gives", 1, 5), ((9, 4), False), ((0, 5), True), ((0, 6), True))
        self.told(("gives", 11, 9), ((9,) * 11 + (8,), False), ((0,) * 11 + (9,), True))

    def test_sum(self):
        self.told(("sum", (0, 2), 5), ((2, 9, 2), False), ((2, 0, 3), True), ((0, 0, 5), True), ((5, 0, 0), True))
        self.told(("sum", (0, 2), 5), ((0, 9, 0), False), ((9, 0, 9), True))
        self.told(("sum", ALL_FOLK, 99), ((9,) * 12, True), ((9,) * 11 + (0,), True), ((9,) * 10 + (8, 0), False))
        self.told(("sum", ALL_FOLK, 1), ((0,) * 12, False), ((0,) * 11 + (1,), True))

    def test_crowd(self):
        two = ("crowd", (0, 1, 3), 4, 2)
        self.told(two, ((4, 4, 0, 0), True), ((4, 3, 9, 3), False), ((0, 4, 0, 4), True), ((9, 0, 9, 0), False))
        self.told(two, ((9, 9, 9, 9), True), ((0, 0, 0, 0), False))
        self.told(("crowd", (0,), 9, 1), ((9,), True), ((8,), False))
        self.told(("crowd", ALL_FOLK, 9, 12), ((9,) * 12, True), ((9,) * 11 + (8,), False))

    def test_a_crowd_of_fewer_than_asked_never_does(self):
        self.told(("crowd", (0, 1), 1, 3), ((9, 9, 9), False))
        self.told(("crowd", (0,), 1, 12), ((9,) * 12, False))

    def test_all_and_any(self):
        parts = (("gives", 0, 1), ("gives", 1, 2), ("gives", 2, 3))
        for giving in itertools.product((0, 1), (1, 2), (2, 3)):
            met = [giving[at] == at + 1 for at in range(3)]
            self.told(("all", parts), (giving, all(met)))
            self.told(("any", parts), (giving, any(met)))

    def test_six_parts_and_depth_four(self):
        parts = tuple(("gives", one, 1) for one in range(6))
        for one in range(6):
            alone = tuple(int(k == one) for k in range(6))
            others = tuple(int(k != one) for k in range(6))
            self.told(("all", parts), (alone, False), (others, False), ((1,) * 6, True))
            self.told(("any", parts), (alone, True), (others, True), ((0,) * 6, False))
        for giving in ((0,), (1,)):
            self.told(nested("all", 4), (giving, giving == (1,)))
            self.told(nested("any", 4), (giving, True))

    def test_at_every_giving_of_a_box(self):
        givings = list(itertools.product((0, 1, 2, 3, 9), repeat=3))
        for term in TERMS:
            there = where(term, givings)
            for giving in givings:
                self.assertIs(holds(term, giving), giving in there, (term, giving))

    def test_never_lost_at_a_giving_above(self):
        givings = list(itertools.product((0, 1, 2, 3, 9), repeat=3))
        for term in TERMS:
            there = [giving for giving in givings if holds(term, giving)]
            for giving in there:
                for at in range(3):
                    for step in range(giving[at], 10):
                        more = giving[:at] + (step,) + giving[at + 1:]
                        self.assertIs(holds(term, more), True, (term, giving, more))


class NamedTest(unittest.TestCase):
    def test_each_kind(self):
        self.assertEqual(named(FREE), [])
        self.assertEqual(named(NEVER), [])
        self.assertEqual(named(("gives", 7, 1)), [7])
        self.assertEqual(named(("sum", (2, 5, 11), 4)), [2, 5, 11])
        self.assertEqual(named(("crowd", (0, 3), 4, 9)), [0, 3])
        self.assertEqual(named(("all", (FREE, NEVER))), [])

    def test_of_parts_rising_and_each_once(self):
        term = ("any", (("gives", 10, 1), ("all", (("sum", (2, 9), 3), ("crowd", (1, 9, 10), 1, 1))), ("gives", 2, 4)))
        self.assertEqual(named(term), [1, 2, 9, 10])
        self.assertEqual(named(("all", (("gives", 1, 1), ("gives", 0, 1), ("gives", 1, 2)))), [0, 1])
        self.assertEqual(named(("any", tuple(("gives", 11 - k, 1) for k in range(6)))), [6, 7, 8, 9, 10, 11])

    def test_a_told_list_is_the_askers_own(self):
        for term, answer in ((("sum", (0, 4), 2), [0, 4]), (FREE, [])):
            told = named(term)
            self.assertIs(type(told), list)
            told.append(5)
            told.reverse()
            self.assertEqual(named(term), answer)


class DepthTest(unittest.TestCase):
    def test_single_ones(self):
        for term in (FREE, NEVER, ("gives", 0, 1), ("sum", (0, 1), 2), ("crowd", (0, 1), 2, 2)):
            self.assertEqual(depth(term), 1)

    def test_nested_ones(self):
        for kind in ("all", "any"):
            for deep in (1, 2, 3, 4, 5):
                self.assertEqual(depth(nested(kind, deep)), deep)

    def test_the_greatest_of_the_parts(self):
        for kind in ("all", "any"):
            self.assertEqual(depth((kind, (nested("all", 3), FREE))), 4)
            self.assertEqual(depth((kind, (FREE, nested("any", 3)))), 4)
            self.assertEqual(depth((kind, (FREE, nested("any", 2), nested("all", 3), NEVER))), 4)
            self.assertEqual(depth((kind, (nested("any", 2), nested("all", 2)))), 3)


class SomewhatBeyondTest(unittest.TestCase):
    def test_nothing_is_refused(self):
        one = ("gives", 1, 10)
        for kind in ("all", "any"):
            for parts in ((one,), (one,) * 7, (one, nested(kind, 5))):
                term = (kind, parts)
                self.assertIs(holds(term, (0, 9)), kind == "any" and len(parts) == 2)
                self.assertIs(holds(term, (1, 10)), True)
                self.assertEqual(named(term), [1] if parts[-1] == one else [0, 1])
                self.assertEqual(depth(term), 2 if parts[-1] == one else 6)
                self.assertEqual(renamed(renamed(term, [1, 0]), [1, 0]), term)
            self.assertIs(holds((kind, ()), (0,)), kind == "all")
            self.assertEqual(named((kind, ())), [])
            self.assertEqual(depth((kind, ())), 1)
            self.assertEqual(renamed((kind, ()), []), (kind, ()))


class RenamedTest(unittest.TestCase):
    def test_each_kind(self):
        row = [5, 3, 11, 0]
        self.assertEqual(renamed(FREE, row), FREE)
        self.assertEqual(renamed(NEVER, []), NEVER)
        self.assertEqual(renamed(("gives", 1, 4), row), ("gives", 3, 4))
        self.assertEqual(renamed(("gives", 2, 9), row), ("gives", 11, 9))
        self.assertEqual(renamed(("sum", (0, 1), 7), row), ("sum", (3, 5), 7))
        self.assertEqual(renamed(("sum", (0, 2, 3), 99), row), ("sum", (0, 5, 11), 99))
        self.assertEqual(renamed(("crowd", (0, 1, 3), 2, 12), row), ("crowd", (0, 3, 5), 2, 12))
        self.assertEqual(renamed(("crowd", (2,), 2, 1), row), ("crowd", (11,), 2, 1))

    def test_parts_keep_their_order(self):
        parts = (("gives", 0, 1), FREE, ("gives", 1, 2), ("any", (("gives", 1, 3), ("sum", (0, 1), 4))))
        told = (("gives", 1, 1), FREE, ("gives", 0, 2), ("any", (("gives", 0, 3), ("sum", (0, 1), 4))))
        for kind in ("all", "any"):
            self.assertEqual(renamed((kind, parts), [1, 0]), (kind, told))

    def test_and_back(self):
        for row in itertools.permutations(range(3)):
            back = [row.index(one) for one in range(3)]
            for term in TERMS:
                self.assertEqual(renamed(renamed(term, list(row)), back), term)

    def test_holds_where_folk_have_changed_places(self):
        givings = list(itertools.product((0, 1, 3, 9), repeat=3))
        for row in itertools.permutations(range(3)):
            for term in TERMS:
                other = renamed(term, list(row))
                self.assertIs(is_term(3, other), True)
                self.assertEqual(depth(other), depth(term))
                self.assertEqual(named(other), sorted(row[one] for one in named(term)))
                for giving in givings:
                    moved = tuple(giving[row.index(one)] for one in range(3))
                    self.assertIs(holds(other, moved), holds(term, giving))

    def test_the_handed_row_stays(self):
        row = [4, 2, 0]
        renamed(("sum", (0, 1, 2), 3), row)
        renamed(("all", (("gives", 2, 1), ("crowd", (0, 2), 1, 1))), row)
        self.assertEqual(row, [4, 2, 0])


if __name__ == "__main__":
    unittest.main()
