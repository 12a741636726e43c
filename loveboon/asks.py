"""What a boon is asked: who is there, what lies on the green, what is owed, and what all can come to."""

from loveboon.boon import check_there, handed_in, owed_of
from loveboon.errors import BoonError
from loveboon.faith import begins
from loveboon.knots import knots
from loveboon.rounds import greatest, least


def folk(boon):
    """How many came."""
    return len(boon.now.green)


def there(boon):
    """The rising list of those who are there."""
    return [one for one in range(folk(boon)) if one not in boon.now.gone]


def green(boon):
    """The giving on the green."""
    return boon.now.green


def pledges(boon):
    """The standing pledges, tuples of number, one and pledge, by number."""
    return list(boon.now.standing)


def coming(boon):
    """The next pledge's number."""
    return boon.now.coming


def book_of(boon):
    """The book of the standing pledges."""
    return [
        [pledge for number, other, pledge in boon.now.standing if other == one]
        for one in range(folk(boon))
    ]


def sure(boon):
    """The sure giving of what lies on the green."""
    return least(book_of(boon), green(boon))


def hoped(boon):
    """The greatest giving of what lies on the green."""
    return greatest(book_of(boon), green(boon))


def boon_knots(boon):
    """The list of all knots, in order."""
    return knots(book_of(boon), green(boon))


def boon_begins(boon):
    """The fewest that begin."""
    return begins(book_of(boon), green(boon))


def owed(boon, one):
    """What one's pledges owe at what lies on the green."""
    check_there(boon.now, one)
    return owed_of(boon.now.standing, one, green(boon))


def may_hand(boon, rises):
    """Whether the rises would be let by."""
    try:
        handed_in(boon.now, rises)
    except BoonError:
        return False
    return True
