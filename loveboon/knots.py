"""Knots: crowds that hold together what none of them holds with one of the others put off."""

from loveboon.between import risen
from loveboon.gifts import lifted
from loveboon.pledges import owes
from loveboon.rounds import greatest, least


def held_step(pledges, low, step, giving):
    """The greatest step up to this one that one's pledges owe at the giving, or the low one."""
    # Most folk of most crowds give their sure steps, and then nothing is to be reckoned.
    if step == low:
        return low
    return max([low] + [min(step, owes(pledge, giving)) for pledge in pledges])


def held(book, sure, giving):
    """The greatest giving between the sure one and this one in which nobody gives more than is due."""
    lesser = giving
    giving = None
    while lesser != giving:
        giving = lesser
        lesser = tuple([
            held_step(pledges, low, step, giving)
            for pledges, low, step in zip(book, sure, giving)
        ])
    return giving


def alone(book, floor, crowd):
    """What a crowd can hold alone."""
    sure = least(book, floor)
    # What a crowd holds is kept, and the greatest giving is above each kept one: none can hold more.
    return held(book, sure, lifted(sure, greatest(book, floor), crowd))


def is_knot(book, floor, crowd):
    """Whether a crowd is a knot."""
    sure = least(book, floor)
    if alone(book, floor, crowd) == sure:
        return False
    # The larger of two crowds holds no less: so those with just one put off are enough to ask.
    for one in crowd:
        if alone(book, floor, [other for other in crowd if other != one]) != sure:
            return False
    return True


def risers(sure, giving):
    """The rising tuple of those who give more than their sure steps."""
    return tuple([one for one, step in enumerate(giving) if step > sure[one]])


def put_off(book, sure, giving, known):
    """For each of those who give more, what the others of them hold with that one put off."""
    rows = []
    for one in risers(sure, giving):
        start = lifted(giving, sure, [one])
        crowd = risers(sure, start)
        # The same crowd is left over of many others: it is reckoned once.
        if crowd not in known:
            known[crowd] = held(book, sure, start)
        rows.append(known[crowd])
    return rows


def knots(book, floor):
    """The list of all knots, in order."""
    sure = least(book, floor)
    whole = greatest(book, floor)
    if whole == sure:
        return []
    # Downward from all who can give more, one put off at a time: a knot without that one holds out
    # in what is left, so each knot is met, and crowds in which somebody gives no more are not gone through.
    found = []
    known = {}
    seen = {sure: True, whole: True}
    ahead = [whole]
    while len(ahead) > 0:
        giving = ahead.pop()
        rows = put_off(book, sure, giving, known)
        if all([row == sure for row in rows]):
            found.append(list(risers(sure, giving)))
        for row in rows:
            if row not in seen:
                seen[row] = True
                ahead.append(row)
    return sorted(found)


def climb(book, floor):
    """The pairs of each knot of a climb and of what lies there behind it."""
    pairs = []
    left = knots(book, floor)
    while len(left) > 0:
        floor = risen(book, floor, alone(book, floor, left[0]))
        pairs.append((left[0], floor))
        left = knots(book, floor)
    return pairs
