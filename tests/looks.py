"""What the tests look at, and the document's words reckoned by plain looks at all givings."""

import itertools
import random

FREE = ("free",)
NEVER = ("never",)
HUGE = 10 ** 39 + 7

# Terms of three folk, of each kind and mixed.
TERMS = (
    FREE,
    NEVER,
    ("gives", 0, 1),
    ("gives", 2, 3),
    ("gives", 1, 9),
    ("sum", (0, 1), 3),
    ("sum", (0, 2), 1),
    ("sum", (0, 1, 2), 5),
    ("sum", (1, 2), 99),
    ("crowd", (0,), 2, 1),
    ("crowd", (0, 2), 1, 2),
    ("crowd", (0, 1, 2), 1, 2),
    ("crowd", (0, 1, 2), 2, 1),
    ("crowd", (0, 1), 1, 3),
    ("all", (("gives", 0, 2), ("gives", 1, 1))),
    ("any", (("gives", 0, 2), ("gives", 1, 1))),
    ("all", (FREE, ("gives", 0, 1), FREE)),
    ("all", (FREE, NEVER)),
    ("any", (FREE, NEVER)),
    ("any", (NEVER, ("gives", 2, 3))),
    ("all", (("any", (("gives", 0, 3), ("gives", 2, 1))), ("sum", (0, 1), 3))),
    ("any", (("all", (("any", (NEVER, ("gives", 1, 2))), ("gives", 0, 1))), ("crowd", (1, 2), 2, 2))),
)
SMALL_BOXES = ((0, 0, 0), (1, 1, 1), (2, 0, 1), (0, 3, 0), (3, 2, 3), (2, 4, 1))
JUST_4096 = ((7, 7, 7, 7), (1,) * 12, (3,) * 6)
TOO_LARGE = ((3, 2, 6, 6, 6), (8, 7, 7, 7), (9, 9, 9, 9), (1,) * 11 + (2,), (9,) * 12)


def all_below(tops):
    """All givings of a box, in order."""
    return sorted(itertools.product(*[range(top + 1) for top in tops]))


def is_above(one, other):
    return all(one[k] >= other[k] for k in range(len(one)))


def least_among(rows):
    """Those that are above no other one, in order, each once."""
    return [row for row in sorted(set(rows)) if not any(is_above(row, other) for other in rows if other != row)]


def most_among(rows):
    """Those that no other one is above, in order, each once."""
    return [row for row in sorted(set(rows)) if not any(is_above(other, row) for other in rows if other != row)]


def met_at(term, giving):
    """Whether a term holds, reckoned by point 7 alone."""
    kind, *rest = term
    if kind in ("all", "any"):
        met = [met_at(part, giving) for part in rest[0]]
        return met.count(True) >= (len(met) if kind == "all" else 1)
    if kind in ("free", "never"):
        return kind == "free"
    crowd = (rest[0],) if kind == "gives" else rest[0]
    steps = [step for one, step in enumerate(giving) if one in crowd]
    if kind == "crowd":
        return sorted(steps, reverse=True)[rest[2] - 1:rest[2]] >= [rest[1]]
    return sum(steps) >= rest[1]


def owed_at(pledge, giving):
    """What a pledge owes, reckoned by point 10 alone."""
    return max([0] + [step for step, term in pledge if met_at(term, giving)])


def due_at(book, floor, giving):
    """What is due of each, reckoned by point 12 alone."""
    return tuple(
        max([floor[one]] + [owed_at(pledge, giving) for pledge in book[one]])
        for one in range(len(floor))
    )


class Maker:
    """Makes terms, pledges and books, the same ones at each run."""

    def __init__(self, seed):
        self.chance = random.Random(seed)

    def number(self, low, high):
        return low + int(self.chance.random() * (high - low + 1))

    def some(self, things, fewest):
        """A rising tuple of some of a rising list of things."""
        left = list(things)
        many = self.number(fewest, len(left))
        while len(left) > many:
            left.pop(self.number(0, len(left) - 1))
        return tuple(left)

    def term(self, folk, top, deep):
        """A term at most so deep that names some of the folk alone."""
        kinds = ["free", "never"] + ["gives", "crowd"] * 3 * bool(folk) + ["sum"] * 3 * (len(folk) > 1)
        kinds += ["all", "any"] * 6 * (deep > 1)
        kind = kinds[self.number(0, len(kinds) - 1)]
        if kind in ("all", "any"):
            return (kind, tuple(self.term(folk, top, deep - 1) for _ in range(self.number(2, 3))))
        if kind == "gives":
            return (kind, self.some(folk, 1)[0], self.number(1, top))
        if kind == "sum":
            crowd = self.some(folk, 2)
            return (kind, crowd, self.number(1, top * len(crowd)))
        if kind == "crowd":
            crowd = self.some(folk, 1)
            return (kind, crowd, self.number(1, top), self.number(1, len(crowd)))
        return (kind,)

    def pledge(self, many, one, top):
        """A pledge of one of so many folk, with no step beyond the top."""
        folk = [other for other in range(many) if other != one]
        steps = self.some(range(1, top + 1), 1)
        return tuple((step, self.term(folk, top, 3)) for step in steps)

    def book(self, many, top):
        return [
            [self.pledge(many, one, top) for _ in range((0, 1, 1, 1, 2, 3)[self.number(0, 5)])]
            for one in range(many)
        ]

    def giving(self, tops):
        return tuple(self.number(0, top) for top in tops)
