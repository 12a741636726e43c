"""The even givings between the least and the greatest one."""

from loveboon.errors import NotClear, NotEven, NotKept
from loveboon.gifts import above, box, joined, met
from loveboon.rounds import clear, even, greatest, kept, least, roof, settled


def evens(book, floor):
    """All even givings, in order."""
    rows = box(roof(book, floor))
    low = least(book, floor)
    high = greatest(book, floor)
    # What is due is reckoned only where an even one may lie.
    between = [row for row in rows if above(row, low) and above(high, row)]
    return [row for row in between if even(book, floor, row)]


def risen(book, floor, giving):
    """The least even giving above a kept one."""
    if not kept(book, floor, giving):
        raise NotKept()
    return settled(book, floor, giving)[-1]


def sunk(book, floor, giving):
    """The greatest even giving below a clear one."""
    if not clear(book, floor, giving):
        raise NotClear()
    return settled(book, floor, giving)[-1]


def check_even(book, floor, giving):
    """Refuses a giving that is not even."""
    if not even(book, floor, giving):
        raise NotEven()


def joined_even(book, floor, one, other):
    """The least even giving that is above two even ones."""
    check_even(book, floor, one)
    check_even(book, floor, other)
    # Joined, they are kept: what is due at each is due there too.
    return risen(book, floor, joined(one, other))


def met_even(book, floor, one, other):
    """The greatest even giving that two even ones are above."""
    check_even(book, floor, one)
    check_even(book, floor, other)
    return sunk(book, floor, met(one, other))
