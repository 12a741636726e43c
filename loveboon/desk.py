"""A desk, at which a boon is told rows of words."""

from loveboon.asks import boon_begins, boon_knots, green, hoped, owed, sure
from loveboon.boon import Boon
from loveboon.errors import BadText, BoonError
from loveboon.notes import crowd_text, read_number, read_pledge


def row_text(things):
    """Texts with blanks between, or a dash for none."""
    return " ".join(things) if len(things) > 0 else "-"


def giving_text(giving):
    """The steps of all folk."""
    return row_text([str(step) for step in giving])


def read_rise(word):
    """The rise that is written with a colon between."""
    # Where the colon is missing the step is empty, and so no number.
    one, colon, step = word.partition(":")
    return (read_number(one), read_number(step))


def do_come(boon, words):
    return f"folk {boon.come()}"


def do_leave(boon, words):
    boon.leave(read_number(words[0]))
    return "done"


def do_pledge(boon, words):
    number = boon.pledge(read_number(words[0]), read_pledge(words[1]))
    return f"pledge {number}"


def do_change(boon, words):
    boon.change(read_number(words[0]), read_pledge(words[1]))
    return "done"


def do_withdraw(boon, words):
    boon.withdraw(read_number(words[0]))
    return "done"


def do_hand(boon, words):
    boon.hand([read_rise(word) for word in words])
    return "done"


def do_undo(boon, words):
    boon.undo()
    return "done"


def do_redo(boon, words):
    boon.redo()
    return "done"


def ask_green(boon, words):
    return giving_text(green(boon))


def ask_sure(boon, words):
    return giving_text(sure(boon))


def ask_greatest(boon, words):
    return giving_text(hoped(boon))


def ask_owed(boon, words):
    return str(owed(boon, read_number(words[0])))


def ask_knots(boon, words):
    return row_text([crowd_text(knot) for knot in boon_knots(boon)])


def ask_begin(boon, words):
    begin = boon_begins(boon)
    return crowd_text(begin) if len(begin) > 0 else "-"


# By a row's first word and by how many words stand behind it.
ROWS = {
    ("come", 0): do_come,
    ("leave", 1): do_leave,
    ("pledge", 2): do_pledge,
    ("change", 2): do_change,
    ("withdraw", 1): do_withdraw,
    ("undo", 0): do_undo,
    ("redo", 0): do_redo,
    ("green", 0): ask_green,
    ("sure", 0): ask_sure,
    ("greatest", 0): ask_greatest,
    ("owed", 1): ask_owed,
    ("knots", 0): ask_knots,
    ("begin", 0): ask_begin,
}


def answer(boon, row):
    """What a row is answered where nothing is refused."""
    words = row.split(" ")
    # As many may hand in as like to, so the table can't tell how many words stand there.
    if words[0] == "hand" and len(words) > 1:
        return do_hand(boon, words[1:])
    key = (words[0], len(words) - 1)
    if key not in ROWS:
        raise BadText()
    deed = ROWS[key]
    return deed(boon, words[1:])


class Desk:
    """A desk with a boon of its own."""

    def __init__(self):
        self.boon = Boon()

    def say(self, row):
        """The answer to a row of words."""
        try:
            return answer(self.boon, row)
        except BoonError as refusal:
            return f"no: {refusal.word}"
