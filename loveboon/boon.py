"""A boon: folk who come and leave, their standing pledges, and what they hand in on the green."""

from loveboon.errors import (
    BadPledge, BadRise, Bound, Full, Gone, NoFolk, NoPledge, NotDue, NothingLeft,
)
from loveboon.gifts import MOST_FOLK, MOST_STEP, is_number
from loveboon.pledges import is_pledge, owes

MOST_PLEDGES = 40


class Stand:
    """How a boon stands between two deeds.

    Nothing of it is changed once it is made: so undoings and twins may share it.
    """

    def __init__(self, green, gone, standing, coming):
        self.green = green
        self.gone = gone
        self.standing = standing
        self.coming = coming


def check_there(stand, one):
    """Refuses one who never came or who left."""
    if not is_number(one, 0, len(stand.green) - 1):
        raise NoFolk()
    if one in stand.gone:
        raise Gone()


def owed_of(standing, one, giving):
    """What one's pledges among the standing ones owe at a giving."""
    return max([owes(pledge, giving) for number, other, pledge in standing if other == one], default=0)


def pledger_of(stand, number):
    """The one whose pledge stands under the number."""
    # True is 1 to Python, but no number here.
    if is_number(number, 0, stand.coming - 1):
        for found, one, pledge in stand.standing:
            if found == number:
                return one
    raise NoPledge()


def check_pledge(stand, one, pledge):
    """Refuses what is no pledge of that one; folk who left may be named, too."""
    if not is_pledge(len(stand.green), one, pledge):
        raise BadPledge()


def pledged_anew(stand, one, standing):
    """The stand with one's pledges changed, where what that one handed in is owed still."""
    if stand.green[one] > owed_of(standing, one, stand.green):
        raise Bound()
    return Stand(stand.green, stand.gone, standing, stand.coming)


def handed_in(stand, rises):
    """The stand behind rises that are let by."""
    if len(rises) == 0:
        raise BadRise()
    steps = list(stand.green)
    crowd = []
    for one, step in rises:
        check_there(stand, one)
        if one in crowd or not is_number(step, steps[one] + 1, MOST_STEP):
            raise BadRise()
        steps[one] = step
        crowd.append(one)
    green = tuple(steps)
    for one in crowd:
        if green[one] > owed_of(stand.standing, one, green):
            raise NotDue()
    return Stand(green, stand.gone, stand.standing, stand.coming)


class Boon:
    """A common work, with all its deeds to undo and to redo."""

    def __init__(self):
        self.now = Stand((), (), (), 0)
        self.behind = []
        self.ahead = []

    def go_on(self, stand):
        """Stands so from now on, by a new deed."""
        self.behind.append(self.now)
        self.ahead = []
        self.now = stand

    def come(self):
        """Lets one come, and tells that one's number."""
        now = self.now
        if len(now.green) >= MOST_FOLK:
            raise Full()
        self.go_on(Stand(now.green + (0,), now.gone, now.standing, now.coming))
        return len(now.green)

    def leave(self, one):
        """Lets one leave, whose pledges fall."""
        now = self.now
        check_there(now, one)
        left = tuple([entry for entry in now.standing if entry[1] != one])
        self.go_on(Stand(now.green, tuple(sorted(now.gone + (one,))), left, now.coming))

    def pledge(self, one, pledge):
        """Takes one's pledge, and tells its number."""
        now = self.now
        check_there(now, one)
        check_pledge(now, one, pledge)
        if len(now.standing) >= MOST_PLEDGES:
            raise Full()
        self.go_on(Stand(now.green, now.gone, now.standing + ((now.coming, one, pledge),), now.coming + 1))
        return now.coming

    def change(self, number, pledge):
        """Changes a standing pledge for another one of the same one."""
        now = self.now
        one = pledger_of(now, number)
        check_pledge(now, one, pledge)
        changed = tuple([(number, one, pledge) if entry[0] == number else entry for entry in now.standing])
        self.go_on(pledged_anew(now, one, changed))

    def withdraw(self, number):
        """Takes a standing pledge back."""
        now = self.now
        one = pledger_of(now, number)
        left = tuple([entry for entry in now.standing if entry[0] != number])
        self.go_on(pledged_anew(now, one, left))

    def hand(self, rises):
        """Lays on the green what some hand in at once, pairs of one and a step."""
        self.go_on(handed_in(self.now, rises))

    def undo(self):
        """Brings all back to what it was ahead of the last deed."""
        if len(self.behind) == 0:
            raise NothingLeft()
        self.ahead.append(self.now)
        self.now = self.behind.pop()

    def redo(self):
        """Does the deed again that was undone last."""
        if len(self.ahead) == 0:
            raise NothingLeft()
        self.behind.append(self.now)
        self.now = self.ahead.pop()

    def undoable(self):
        """How many deeds could be undone in a row."""
        return len(self.behind)

    def redoable(self):
        """How many deeds could be redone in a row."""
        return len(self.ahead)

    def twin(self):
        """A boon that stands as this one, with the same to undo and to redo."""
        other = boon_of(self.now)
        other.behind = list(self.behind)
        other.ahead = list(self.ahead)
        return other


def boon_of(stand):
    """A boon that stands so, with nothing to undo or to redo."""
    boon = Boon()
    boon.now = stand
    return boon
