"""Pledges, rungs of a step and the term on which it is owed."""

from loveboon.errors import BadGiving
from loveboon.gifts import MOST_STEP, above, box, in_box, is_number, lowest
from loveboon.terms import holds, is_term, named

MOST_RUNGS = 9


def is_rung(many, one, thing, lowest_step):
    """Whether it is a rung of that one's pledge, with at least the lowest step."""
    if not isinstance(thing, tuple) or len(thing) != 2:
        return False
    step, term = thing
    return is_number(step, lowest_step, MOST_STEP) and is_term(many, term) and one not in named(term)


def is_pledge(many, one, thing):
    """Whether it is a pledge of that one of so many folk."""
    if not isinstance(thing, tuple) or not is_number(len(thing), 1, MOST_RUNGS):
        return False
    lowest_step = 1
    for rung in thing:
        if not is_rung(many, one, rung, lowest_step):
            return False
        lowest_step = rung[0] + 1
    return True


def owes(pledge, giving):
    """The greatest step of the rungs whose terms hold at a giving, 0 where none do."""
    # Backward, since steps rise: the first that holds is the greatest.
    for step, term in reversed(pledge):
        if holds(term, giving):
            return step
    return 0


def last_step(pledge):
    """The greatest step of a pledge."""
    return max([step for step, term in pledge], default=0)


def asks(pledge, step, tops):
    """The least givings of the box at which the pledge owes at least the step, in order."""
    return lowest([giving for giving in box(tops) if owes(pledge, giving) >= step])


def paper(pledge, step, giving, tops):
    """A least giving below this one that brings the step, or a greatest one above it that doesn't."""
    rows = box(tops)
    if not in_box(tops, giving):
        raise BadGiving()
    # As tuples are ordered, the first of some is above no other one of them, and none is above the last.
    if owes(pledge, giving) >= step:
        below = [row for row in rows if above(giving, row) and owes(pledge, row) >= step]
        return ("want", below[0])
    beyond = [row for row in rows if above(row, giving) and owes(pledge, row) < step]
    return ("lack", beyond[-1])


def stronger(one, other, tops):
    """Whether the first pledge owes at each giving of the box at least as much as the other."""
    for giving in box(tops):
        if owes(one, giving) < owes(other, giving):
            return False
    return True


def parted(one, other, tops):
    """The first giving of the box at which two pledges owe unlike steps, or None."""
    for giving in box(tops):
        if owes(one, giving) != owes(other, giving):
            return giving
    return None
