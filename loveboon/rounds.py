"""Books of pledges: what is due at a giving, and what all comes to by it from below and from above."""

from loveboon.gifts import above
from loveboon.pledges import last_step, owes


def what_is_due(book, floor, giving):
    """Of each the greatest of one's step of the floor and of what one's pledges owe at the giving."""
    return tuple([
        max([step] + [owes(pledge, giving) for pledge in pledges])
        for step, pledges in zip(floor, book)
    ])


def kept(book, floor, giving):
    """Whether nobody gives more than is due."""
    return above(what_is_due(book, floor, giving), giving)


def clear(book, floor, giving):
    """Whether nobody owes."""
    return above(giving, what_is_due(book, floor, giving))


def even(book, floor, giving):
    """Whether everybody gives just what is due."""
    return what_is_due(book, floor, giving) == giving


def roof(book, floor):
    """Of each the greatest of one's step of the floor and of the last steps of one's pledges."""
    return tuple([
        max([step] + [last_step(pledge) for pledge in pledges])
        for step, pledges in zip(floor, book)
    ])


def settled(book, floor, giving):
    """The row from a giving on in which each next one is due at the one ahead, up to an even one."""
    row = [giving]
    due = what_is_due(book, floor, giving)
    while due != row[-1]:
        row.append(due)
        due = what_is_due(book, floor, due)
    return row


def rise(book, floor):
    """The row from the floor up to the least even giving."""
    return settled(book, floor, floor)


def fall(book, floor):
    """The row from the roof down to the greatest even giving."""
    return settled(book, floor, roof(book, floor))


def least(book, floor):
    """The least even giving."""
    return rise(book, floor)[-1]


def greatest(book, floor):
    """The greatest even giving."""
    return fall(book, floor)[-1]


def shows_least(book, floor, row):
    """Whether the row shows others that its last giving is the least even one."""
    if len(row) == 0 or row[0] != floor:
        return False
    for ahead, behind in zip(row, row[1:]):
        if not above(behind, ahead) or not above(what_is_due(book, floor, ahead), behind):
            return False
    return clear(book, floor, row[-1])


def shows_greatest(book, floor, row):
    """Whether the row shows others that its last giving is the greatest even one."""
    if len(row) == 0 or not above(row[0], roof(book, floor)):
        return False
    for ahead, behind in zip(row, row[1:]):
        if not above(ahead, behind) or not above(behind, what_is_due(book, floor, ahead)):
            return False
    return kept(book, floor, row[-1])
