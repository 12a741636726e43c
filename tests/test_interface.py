"""The interface's names and arguments, and what goes for everything (points 1 to 4)."""

import importlib
import inspect
import unittest

from loveboon import errors
from loveboon.boon import Boon
from loveboon.desk import Desk
from loveboon.notes import page

INTERFACE = {
    "gifts": "is_giving(thing) above(one,other) joined(one,other) met(one,other) size(tops) number_of(tops,giving)"
             " giving_of(tops,number) box(tops) lowest(rows) highest(rows)",
    "terms": "is_term(many,term) holds(term,giving) named(term) depth(term) renamed(term,row)",
    "wants": "wants(term,tops) lacks(term,tops) lacks_of(rows,tops) wants_of(rows,tops) both(one,other)"
             " either(one,other) alike(term,other,tops) apart(term,other,tops)",
    "pledges": "is_pledge(many,one,thing) owes(pledge,giving) last_step(pledge) asks(pledge,step,tops)"
               " paper(pledge,step,giving,tops) stronger(one,other,tops) parted(one,other,tops)",
    "rounds": "what_is_due(book,floor,giving) kept(book,floor,giving) clear(book,floor,giving) even(book,floor,giving)"
              " roof(book,floor) rise(book,floor) fall(book,floor) least(book,floor) greatest(book,floor)"
              " shows_least(book,floor,row) shows_greatest(book,floor,row)",
    "between": "evens(book,floor) risen(book,floor,giving) sunk(book,floor,giving) joined_even(book,floor,one,other)"
               " met_even(book,floor,one,other)",
    "knots": "alone(book,floor,crowd) is_knot(book,floor,crowd) knots(book,floor) climb(book,floor)",
    "faith": "begun(book,floor,crowd) begins(book,floor) without(book,floor,one) lost(book,floor,one)",
    "asks": "folk(boon) there(boon) green(boon) pledges(boon) coming(boon) book_of(boon) sure(boon) hoped(boon)"
            " boon_knots(boon) boon_begins(boon) owed(boon,one) may_hand(boon,rises)",
    "notes": "term_text(term) pledge_text(pledge) page(boon) read_term(text) read_pledge(text) read_page(text)",
}
METHODS = {
    Boon: "come() leave(one) pledge(one,pledge) change(number,pledge) withdraw(number) hand(rises) undo() redo()"
          " undoable() redoable() twin()",
    Desk: "say(row)",
}


def parted(text):
    """Pairs of a name and its arguments."""
    for word in text.split():
        name, _, arguments = word.rstrip(")").partition("(")
        yield name, [argument for argument in arguments.split(",") if argument]


class InterfaceTest(unittest.TestCase):
    def test_functions(self):
        for module, text in INTERFACE.items():
            there = importlib.import_module(f"loveboon.{module}")
            for name, arguments in parted(text):
                told = getattr(there, name)
                self.assertTrue(inspect.isfunction(told), name)
                self.assertEqual(list(inspect.signature(told).parameters), arguments, name)

    def test_methods(self):
        for kind, text in METHODS.items():
            self.assertEqual(list(inspect.signature(kind).parameters), [])
            for name, arguments in parted(text):
                self.assertEqual(list(inspect.signature(getattr(kind(), name)).parameters), arguments, name)

    def test_refusals_stand_straight_under_one(self):
        kinds = [kind for kind in vars(errors).values() if inspect.isclass(kind)]
        self.assertEqual(len(kinds), 16)
        for kind in kinds:
            self.assertEqual(kind.__bases__, (ValueError,) if kind is errors.BoonError else (errors.BoonError,))


class WholeTest(unittest.TestCase):
    def test_a_common_work(self):
        # Pledges come in any order, are changed and taken back; gifts are handed in by one or by several at once.
        desk = Desk()
        for row, answer in (
            ("come", "folk 0"), ("come", "folk 1"), ("come", "folk 2"), ("come", "folk 3"),
            ("pledge 0 1?free,3?1+2:5", "pledge 0"), ("pledge 1 2?2:2,3?(0:3&3*0+2+3:1)", "pledge 1"),
            ("pledge 2 2?1:2", "pledge 2"), ("pledge 3 1?2*0+1+2:1", "pledge 3"),
            ("sure", "1 0 0 0"), ("greatest", "3 3 2 1"), ("knots", "1+2"), ("begin", "1"),
            ("change 2 3?1:2", "done"), ("greatest", "3 3 3 1"), ("knots", "1+2"), ("hand 0:1", "done"),
            ("hand 1:2 2:3", "done"), ("sure", "3 3 3 1"), ("hand 0:3", "done"), ("hand 1:3", "no: not due"),
            ("hand 3:1", "done"), ("hand 1:3", "done"), ("green", "3 3 3 1"), ("greatest", "3 3 3 1"), ("knots", "-"),
            ("withdraw 3", "no: bound"), ("leave 3", "done"), ("green", "3 3 3 1"), ("undo", "done"), ("owed 3", "1"),
        ):
            self.assertEqual(desk.say(row), answer, row)
        self.assertEqual(page(desk.boon), "folk 4\n" + "".join(
            f"green {one} {step}\n" for one, step in enumerate((3, 3, 3, 1))
        ) + "pledge 0 0 1?free,3?1+2:5\npledge 1 1 2?2:2,3?(0:3&3*0+2+3:1)\n"
            "pledge 2 2 3?1:2\npledge 3 3 1?2*0+1+2:1\nnext 4\n")


if __name__ == "__main__":
    unittest.main()
