"""Books of pledges that several tests look at, and the document's words on them by looks at all givings and crowds."""

import itertools

from loveboon.terms import renamed
from tests.looks import FREE, Maker, all_below, due_at, is_above

# 0 gives 1 freely, 2 if 1 gives 1; 1 gives 1 if 0 gives 1, 3 if 2 gives 2; 2 pledged nothing.
CHAIN = [
    [((1, FREE), (2, ("gives", 1, 1)))],
    [((1, ("gives", 0, 1)),), ((3, ("gives", 2, 2)),)],
    [],
]
# Each of two gives 2 if the other gives 2, and 1 gives 1 if 0 gives 1.
KNOT = [
    [((2, ("gives", 1, 2)),)],
    [((1, ("gives", 0, 1)), (2, ("gives", 0, 2)))],
]


def chain(many):
    """A book in which each gives a step more than the one ahead, 0 freely."""
    steps = [min(one + 1, 9) for one in range(many)]
    return [[((1, FREE),)]] + [[((steps[one], ("gives", one - 1, steps[one - 1])),)] for one in range(1, many)]


def nobody(many):
    """A book in which nobody pledged."""
    return [[] for _ in range(many)]


def rings(many, *crowds, step=2):
    """A book in which each of a crowd gives the step if the next one of it does, the last if the first does."""
    book = nobody(many)
    for crowd in crowds:
        for at, one in enumerate(crowd):
            book[one].append(((step, ("gives", crowd[(at + 1) % len(crowd)], step)),))
    return book


def so_many(many, needed, step=1):
    """A book in which each gives the step if so many of the others do."""
    return [
        [((step, ("crowd", tuple(other for other in range(many) if other != one), step, needed)),)]
        for one in range(many)
    ]


def made_books():
    """Pairs of a book and a floor, of one to four folk, with all steps at most 3."""
    maker = Maker(12)
    made = []
    for at in range(120):
        many = 1 + at % 4
        book = maker.book(many, 3)
        floor = (0,) * many if at % 3 == 0 else maker.giving((1, 0, 3, 1)[:many])
        made.append((book, floor))
    return made


def tied_books():
    """Pairs of a book and a floor, of two to four folk with steps at most 2, that have several even givings."""
    maker = Maker(7)
    made = []
    while len(made) < 60:
        many = 2 + len(made) % 3
        book = []
        for one in range(many):
            folk = [other for other in range(many) if other != one]
            book.append([
                tuple((step, maker.term(folk, 2, 2)) for step in maker.some((1, 2), 1))
                for _ in range(maker.number(1, 2))
            ])
        floor = (0,) * many if len(made) % 2 else maker.giving((1, 0, 1, 0)[:many])
        if len(Look(book, floor, 2).evens) > 1:
            made.append((book, floor))
    return made


def crowds_of(folk):
    """All crowds of some folk, rising lists, as lists are ordered."""
    return sorted([list(crowd) for many in range(len(folk) + 1) for crowd in itertools.combinations(folk, many)])


class Look:
    """What points 12 to 18 say of a book, reckoned by looks at all givings with steps at most the top."""

    def __init__(self, book, floor, top=3):
        self.floor = floor
        self.rows = all_below((top,) * len(floor))
        self.dues = {row: due_at(book, floor, row) for row in self.rows}
        self.evens = [row for row in self.rows if self.dues[row] == row]
        self.sure, self.whole = self.evens[0], self.evens[-1]
        self.crowds = crowds_of(range(len(floor)))

    def alone(self, crowd):
        others = [one for one in range(len(self.floor)) if one not in crowd]
        fits = [
            row for row in self.rows
            if all(row[one] == self.sure[one] for one in others)
            and all(self.sure[one] <= row[one] <= self.dues[row][one] for one in crowd)
        ]
        most = [row for row in fits if all(is_above(row, other) for other in fits)]
        assert len(most) == 1
        return most[0]

    def knots(self):
        more = [crowd for crowd in self.crowds if self.alone(crowd) != self.sure]
        return [crowd for crowd in more if not any(set(other) < set(crowd) for other in more)]

    def begun(self, crowd):
        # What is due on a higher floor is what is due on this one or the higher step.
        lies = [self.whole[one] if one in crowd else step for one, step in enumerate(self.floor)]
        fits = [
            row for row in self.rows
            if all(max(lies[one], self.dues[row][one]) == row[one] for one in range(len(lies)))
        ]
        assert all(is_above(row, fits[0]) for row in fits)
        return fits[0]

    def begins(self):
        able = [crowd for crowd in self.crowds if self.begun(crowd) == self.whole]
        return min(able, key=lambda crowd: (len(crowd), crowd))


def renumbered(book, floor, row):
    """The book and the floor with row[k] for k."""
    there = nobody(len(book))
    steps = [0] * len(floor)
    for one, pledges in enumerate(book):
        there[row[one]] = [tuple((step, renamed(term, row)) for step, term in pledge) for pledge in pledges]
        steps[row[one]] = floor[one]
    return there, tuple(steps)


BOOKS = [(CHAIN, (0, 0, 0)), (CHAIN, (0, 0, 2)), (KNOT, (0, 0)), (KNOT, (1, 0)), (KNOT, (2, 0))] + made_books()
# With all steps at most 2: rings apart, within one another, on others, with somebody who gives freely.
LAID = [
    (KNOT, (0, 0)),
    (KNOT, (1, 0)),
    (rings(2, (0, 1)), (0, 0)),
    (rings(3, (0, 2, 1)), (0, 0, 0)),
    (rings(3, (0, 1), (1, 2)), (0, 0, 0)),
    (rings(3, (0, 1), (1, 2), (0, 2)), (0, 1, 0)),
    (rings(4, (0, 2), (1, 3)), (0, 0, 0, 0)),
    (rings(4, (0, 2), (1, 3)), (0, 2, 1, 0)),
    (rings(4, (3, 1, 2, 0)), (0, 0, 0, 1)),
    (rings(4, (1, 2, 3), (0, 1)), (1, 0, 0, 0)),
    (so_many(3, 1), (0, 0, 0)),
    (so_many(4, 2), (0, 0, 0, 0)),
    (so_many(4, 2, 2), (0, 1, 2, 0)),
    (so_many(4, 3), (0, 0, 0, 0)),
    ([[((1, FREE), (2, ("gives", 1, 2)))], [((2, ("gives", 2, 2)),)], [((2, ("gives", 0, 1)),)]], (0, 0, 0)),
    ([[((1, ("gives", 1, 1)), (2, ("gives", 2, 2)))], [((1, ("gives", 0, 1)),)], [((2, ("gives", 3, 2)),)],
      [((2, ("all", (("gives", 2, 2), ("gives", 0, 1)))),)]], (0, 0, 0, 0)),
]
TIED = tied_books()
