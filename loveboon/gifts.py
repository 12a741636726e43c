"""Givings, tuples of a step for each of the folk, and boxes of them."""

from loveboon.errors import BadGiving, TooMany

MOST_FOLK = 12
MOST_STEP = 9
MOST_LOOKED_THROUGH = 4096


def is_number(thing, low, high):
    """Whether it is a number from low to high; True and False are none."""
    return isinstance(thing, int) and not isinstance(thing, bool) and low <= thing and thing <= high


def is_giving(thing):
    """Whether a tuple of numbers is a giving."""
    if not is_number(len(thing), 1, MOST_FOLK):
        return False
    return all([is_number(step, 0, MOST_STEP) for step in thing])


def above(one, other):
    """Whether the first giving is above the other one, as long as it."""
    for step, least in zip(one, other):
        if step < least:
            return False
    return True


def joined(one, other):
    """The giving that has the greater step of each."""
    return tuple([max(step, beside) for step, beside in zip(one, other)])


def met(one, other):
    """The giving that has the lesser step of each."""
    return tuple([min(step, beside) for step, beside in zip(one, other)])


def lifted(giving, high, crowd):
    """The giving with the steps of a high one for those of a crowd."""
    return tuple([high[one] if one in crowd else step for one, step in enumerate(giving)])


def size(tops):
    """How many givings the box has."""
    many = 1
    for top in tops:
        many *= top + 1
    return many


def in_box(tops, giving):
    """Whether the box has a giving of any length."""
    if len(giving) != len(tops):
        return False
    for step, top in zip(giving, tops):
        if not is_number(step, 0, top):
            return False
    return True


def number_of(tops, giving):
    """The place of a giving in the order of its box."""
    if not in_box(tops, giving):
        raise BadGiving()
    number = 0
    for step, top in zip(giving, tops):
        number = number * (top + 1) + step
    return number


def giving_of(tops, number):
    """The giving of the box that stands at a place of its order."""
    if not is_number(number, 0, size(tops) - 1):
        raise BadGiving()
    steps = []
    for top in reversed(tops):
        number, step = divmod(number, top + 1)
        steps.append(step)
    return tuple(reversed(steps))


def box(tops):
    """The list of all givings of the box, in order."""
    # Counted ahead, since a box that is refused may be too large to be built.
    if size(tops) > MOST_LOOKED_THROUGH:
        raise TooMany()
    rows = [()]
    for top in tops:
        rows = [row + (step,) for row in rows for step in range(top + 1)]
    return rows


def above_one_of(giving, others):
    """Whether the giving is above at least one of the others."""
    for other in others:
        if above(giving, other):
            return True
    return False


def below_one_of(giving, others):
    """Whether at least one of the others is above the giving."""
    for other in others:
        if above(other, giving):
            return True
    return False


def lowest(rows):
    """Those of a list of givings that are above no other one, in order, each once."""
    found = []
    # As tuples are ordered, each stands ahead of all that are above it, its own twins among them:
    # so those found ahead are enough to ask.
    for row in sorted(rows):
        if not above_one_of(row, found):
            found.append(row)
    return found


def highest(rows):
    """Those of a list of givings that no other one is above, in order, each once."""
    found = []
    # Backward, each stands ahead of all that it is above.
    for row in reversed(sorted(rows)):
        if not below_one_of(row, found):
            found.append(row)
    return found[::-1]
