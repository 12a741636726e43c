"""Where terms hold in a box, told by the least givings at which they do or the greatest at which they don't."""

from loveboon.gifts import above_one_of, below_one_of, box, highest, joined, lowest
from loveboon.terms import holds


def wants(term, tops):
    """The least givings of the box at which the term holds, in order."""
    return lowest([giving for giving in box(tops) if holds(term, giving)])


def lacks(term, tops):
    """The greatest givings of the box at which the term doesn't hold, in order."""
    return highest([giving for giving in box(tops) if not holds(term, giving)])


def lacks_of(rows, tops):
    """The greatest givings of the box that are above none of the rows, in order."""
    return highest([giving for giving in box(tops) if not above_one_of(giving, rows)])


def wants_of(rows, tops):
    """The least givings of the box that none of the rows are above, in order."""
    return lowest([giving for giving in box(tops) if not below_one_of(giving, rows)])


def both(one, other):
    """Of two terms' lists of least wants in one box those of their `all`, in order."""
    # A set, since many pairs join to the same giving, and each is dear to look at.
    return lowest(sorted({joined(giving, beside) for giving in one for beside in other}))


def either(one, other):
    """Of two terms' lists of least wants in one box those of their `any`, in order."""
    return lowest(one + other)


def apart(term, other, tops):
    """The first giving of the box at which just one of two terms holds, or None."""
    for giving in box(tops):
        if holds(term, giving) != holds(other, giving):
            return giving
    return None


def alike(term, other, tops):
    """Whether two terms hold at the same givings of the box."""
    return apart(term, other, tops) is None
