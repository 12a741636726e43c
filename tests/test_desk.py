"""Points 2, 4 and 26 and the interface's section of loveboon/desk.py."""

import unittest

from loveboon.asks import boon_begins, boon_knots, folk, green, hoped, owed, pledges, sure, there
from loveboon.boon import Boon
from loveboon.desk import Desk
from loveboon.errors import BoonError
from loveboon.notes import page, pledge_text
from tests.looks import FREE
from tests.model import Chance, Model

BAD = "no: bad text"
# What is told at a desk, and what is answered.
TOLD = """
green            | -
sure             | -
greatest         | -
knots            | -
begin            | -
owed 0           | no: no folk
undo             | no: nothing left
redo             | no: nothing left
leave 0          | no: no folk
withdraw 0       | no: no pledge
hand 0:1         | no: no folk
pledge 0 1?free  | no: no folk
change 0 1?free  | no: no pledge
come             | folk 0
green            | 0
begin            | -
knots            | -
come             | folk 1
come             | folk 2
come             | folk 3
come             | folk 4
green            | 0 0 0 0 0
pledge 0 2?1:2   | pledge 0
pledge 1 2?0:2   | pledge 1
pledge 3 1?(free&2:1),9?4:9 | pledge 2
pledge 2 1?3:1   | pledge 3
pledge 4 1?free,3?2*0+1+2+3:1 | pledge 4
sure             | 0 0 0 0 1
greatest         | 2 2 1 1 3
knots            | 0+1 2+3
begin            | 0+2
owed 4           | 1
owed 0           | 0
owed 5           | no: no folk
hand 4:1         | done
hand 4:2         | no: not due
hand 4:1         | no: bad rise
hand 0:1         | no: not due
hand 0:2 1:2     | done
green            | 2 2 0 0 1
sure             | 2 2 0 0 3
owed 4           | 3
knots            | 2+3
begin            | 2
withdraw 0       | no: bound
change 0 1?free  | no: bound
change 0 2?free,3?5:1 | no: bad pledge
change 0 2?free  | done
withdraw 1       | no: bound
leave 1          | done
leave 1          | no: gone
owed 1           | no: gone
pledge 1 1?free  | no: gone
hand 1:3         | no: gone
withdraw 1       | no: no pledge
change 1 2?free  | no: no pledge
undo             | done
withdraw 1       | no: bound
redo             | done
redo             | no: nothing left
withdraw 3       | done
knots            | -
begin            | -
greatest         | 2 2 0 0 3
hand 4:3         | done
green            | 2 2 0 0 3
pledge 2 9?2:1   | no: bad pledge
pledge 2 9?0+1:4 | pledge 5
hand 2:10        | no: bad rise
hand 2:9 2:9     | no: bad rise
hand 2:0         | no: bad rise
hand 2:9 5:1     | no: no folk
hand 2:9         | done
green            | 2 2 9 0 3
"""
PLEDGES = "1?free,2?(0:1&1:1)"


def told_rows():
    return [[word.strip() for word in line.split(" | ")] for line in TOLD.strip().split("\n")]


def peopled():
    """A desk of three folk; 0 and 1 pledged, and there is something to undo and to redo."""
    desk = Desk()
    for row in ("come", "come", "come", "pledge 0 1?free", "pledge 1 2?0:1", "hand 0:1", "come", "undo"):
        desk.say(row)
    return desk


class DeskTest(unittest.TestCase):
    def test_told_and_answered(self):
        desk = Desk()
        for at, (row, answer) in enumerate(told_rows()):
            told = desk.say(row)
            self.assertIs(type(told), str)
            self.assertEqual(told, answer, (at, row))

    def test_every_kind_of_row_is_told(self):
        told = {row.split(" ")[0] for row, answer in told_rows()}
        self.assertEqual(told, {
            "come", "leave", "pledge", "change", "withdraw", "hand", "undo", "redo", "green", "sure", "greatest",
            "owed", "knots", "begin",
        })

    def test_full(self):
        desk = Desk()
        for one in range(12):
            self.assertEqual(desk.say("come"), f"folk {one}")
        self.assertEqual(desk.say("come"), "no: full")
        self.assertEqual(desk.say("green"), "0 0 0 0 0 0 0 0 0 0 0 0")
        for number in range(40):
            self.assertEqual(desk.say(f"pledge {number % 12} 1?free"), f"pledge {number}")
        self.assertEqual(desk.say("pledge 11 1?free"), "no: full")
        self.assertEqual(desk.say("pledge 11 1?11:1"), "no: bad pledge")
        self.assertEqual(desk.say("pledge 11 1?12:1"), BAD)
        self.assertEqual(desk.say("pledge 12 1?free"), "no: no folk")
        self.assertEqual(desk.say("withdraw 39"), "done")
        self.assertEqual(desk.say("pledge 11 1?free"), "pledge 40")
        self.assertEqual(desk.say("hand " + " ".join(f"{one}:1" for one in range(12))), "done")
        self.assertEqual(desk.say("green"), "1 1 1 1 1 1 1 1 1 1 1 1")

    def test_knots_of_two_figures(self):
        desk = Desk()
        for _ in range(12):
            desk.say("come")
        for row in ("10 3?11:3", "11 3?10:3", "0 1?2:1", "2 1?9:1", "9 1?0:1"):
            self.assertTrue(desk.say(f"pledge {row}").startswith("pledge "))
        self.assertEqual(desk.say("knots"), "0+2+9 10+11")
        self.assertEqual(desk.say("begin"), "0+10")
        self.assertEqual(desk.say("greatest"), "1 0 1 0 0 0 0 0 0 1 3 3")


class OtherRowsTest(unittest.TestCase):
    def bad(self, *rows):
        desk = peopled()
        before = page(desk.boon), desk.boon.undoable(), desk.boon.redoable()
        for row in rows:
            self.assertEqual(desk.say(row), BAD, row[:80])
            self.assertEqual((page(desk.boon), desk.boon.undoable(), desk.boon.redoable()), before, row[:80])

    def good_rows(self):
        return [
            "come", "leave 0", f"pledge 2 {PLEDGES}", "change 1 1?free,2?2:1", "withdraw 1", "hand 1:2", "hand 1:2 0:1",
            "undo", "redo", "green", "sure", "greatest", "owed 1", "knots", "begin",
        ]

    def test_no_words(self):
        self.bad("", " ", "  ", "\n", "-", "no", "done", "folk 0", "folk", "next", "twin", "page", "help", "quit", "free")

    def test_a_blank_more(self):
        for row in self.good_rows():
            self.assertNotEqual(peopled().say(row), BAD, row)
            self.bad(f" {row}", f"{row} ", f"  {row}", f"{row}  ", f"{row}\n", f"\n{row}", row.replace(" ", "\n") + "\n")
            for at, sign in enumerate(row):
                self.bad(row[:at] + " " + row[at:])
                if sign == " ":
                    self.bad(row[:at] + row[at + 1:], row[:at] + "\n" + row[at + 1:], row[:at] + "\t" + row[at + 1:])

    def test_words_less_or_more(self):
        for row in self.good_rows():
            words = row.split(" ")
            self.bad(f"{row} 0", f"{row} x", f"{row} {row}", f"0 {row}")
            for many in range(len(words)):
                if words[:many] != ["hand", "1:2"]:
                    self.bad(" ".join(words[:many]))
            if len(words) > 1:
                self.bad(" ".join(words[1:]))

    def test_capitals(self):
        for row in self.good_rows():
            self.bad(row.upper(), row.title(), row[0].upper() + row[1:])

    def test_numbers(self):
        for number in ("00", "01", "-1", "+1", "1.0", "one", "0x1", "1_0", "1000000000", "1" * 10, "9" * 60, "1" * 5000,
                       "0" * 19000, "", "1:", "a"):
            self.bad(f"leave {number}", f"pledge {number} 1?free", f"change {number} 1?free", f"withdraw {number}",
                     f"owed {number}", f"hand {number}:1", f"hand 1:{number}", f"hand 0:1 1:{number}",
                     f"hand {number}:1 1:1", f"pledge 0 {number}?free", f"pledge 0 1?{number}:1")

    def test_numbers_of_nine_figures(self):
        desk = peopled()
        for row, answer in (
            ("leave 999999999", "no folk"), ("pledge 999999999 1?free", "no folk"), ("change 999999999 1?free", "no pledge"),
            ("withdraw 999999999", "no pledge"), ("owed 999999999", "no folk"), ("hand 999999999:1", "no folk"),
            ("hand 1:999999999", "bad rise"), ("leave 12", "no folk"),
        ):
            self.assertEqual(desk.say(row), f"no: {answer}")
        self.bad("pledge 0 999999999?free", "pledge 0 1?999999999:1")

    def test_rises(self):
        self.bad("hand", "hand 1", "hand 1:", "hand :1", "hand :", "hand 1:1:1", "hand 1::1", "hand 1;1", "hand 1:1,0:2",
                 "hand (1:1)", "hand 1:1 0", "hand 0 1:1", "hand 1:1 :", "hand 1?1")

    def test_pledges(self):
        for pledge in ("", "free", "1?", "?free", "0?free", "10?free", "1?free,", "2?free,1?free", "1?fre", "1?12:1",
                       "1?(free)", "1?1+0:1", "1?0:10"):
            # Ahead of all that is refused, since such a row is another one.
            self.bad(f"pledge 0 {pledge}", f"pledge 7 {pledge}", f"change 0 {pledge}", f"change 7 {pledge}")
        self.bad("pledge 1?free", "pledge 1?free 0", "change 0 1?free 2?free", "pledge 0 1?free, 2?free")
        desk = peopled()
        self.assertEqual(desk.say("pledge 0 1?3:1"), "no: bad pledge")
        self.assertEqual(desk.say("pledge 0 1?0:1"), "no: bad pledge")
        self.assertEqual(desk.say("pledge 3 1?3:1"), "no: no folk")
        self.assertEqual(desk.say("change 2 1?3:1"), "no: no pledge")

    def test_what_is_refused_leaves_all_as_it_was(self):
        desk = peopled()
        before = page(desk.boon), desk.boon.undoable(), desk.boon.redoable()
        for row in ("leave 3", "pledge 3 1?free", "pledge 0 1?0:1", "change 9 1?free", "change 0 1?never", "withdraw 0",
                    "withdraw 9", "hand 0:1", "hand 1:3", "hand 1:1 2:1", "owed 3"):
            self.assertTrue(desk.say(row).startswith("no: "))
            self.assertEqual((page(desk.boon), desk.boon.undoable(), desk.boon.redoable()), before)
        self.assertEqual(desk.say("redo"), "done")
        self.assertEqual(desk.say("redo"), "no: nothing left")


class TheBoonTest(unittest.TestCase):
    def test_the_same_one_for_good(self):
        desk = Desk()
        boon = desk.boon
        self.assertIs(type(boon), Boon)
        for row, answer in told_rows():
            desk.say(row)
            self.assertIs(desk.boon, boon)
        self.assertEqual(green(boon), (2, 2, 9, 0, 3))

    def test_rows_and_deeds_by_turns(self):
        desk = Desk()
        boon = desk.boon
        self.assertEqual(boon.come(), 0)
        self.assertEqual(desk.say("come"), "folk 1")
        self.assertEqual(boon.pledge(0, ((2, FREE),)), 0)
        self.assertEqual(desk.say("pledge 1 1?0:2"), "pledge 1")
        self.assertEqual(desk.say("sure"), "2 1")
        boon.hand([(0, 2)])
        self.assertEqual(desk.say("green"), "2 0")
        self.assertEqual(desk.say("owed 1"), "1")
        self.assertEqual(desk.say("undo"), "done")
        self.assertEqual((green(boon), boon.redoable()), ((0, 0), 1))
        boon.redo()
        self.assertEqual(desk.say("hand 1:1"), "done")
        self.assertEqual(green(boon), (2, 1))
        boon.leave(0)
        self.assertEqual(desk.say("owed 0"), "no: gone")
        boon.undo()
        self.assertEqual(desk.say("owed 0"), "2")

    def test_two_desks(self):
        one, other = Desk(), Desk()
        self.assertIsNot(one.boon, other.boon)
        one.say("come")
        self.assertEqual((folk(one.boon), folk(other.boon)), (1, 0))
        self.assertEqual((one.say("green"), other.say("green")), ("0", "-"))
        other.say("come")
        other.say("come")
        other.say("pledge 1 3?free")
        self.assertEqual((one.say("greatest"), other.say("greatest")), ("0", "0 3"))
        self.assertEqual((one.say("undo"), one.say("undo"), other.say("undo")), ("done", "no: nothing left", "done"))
        self.assertEqual(other.say("redo"), "done")

    def test_a_twin_is_told_nothing(self):
        desk = Desk()
        desk.say("come")
        other = desk.boon.twin()
        desk.say("come")
        other.leave(0)
        self.assertEqual((there(desk.boon), there(other)), ([0, 1], []))


class ByChanceTest(unittest.TestCase):
    def row_of(self, deed, handed):
        if deed == "hand":
            return " ".join(["hand"] + [f"{one}:{step}" for one, step in handed[0]])
        return " ".join([deed] + [pledge_text(thing) if isinstance(thing, tuple) else str(thing) for thing in handed])

    def answer_of(self, deed, told):
        if isinstance(told, str):
            return "no: " + "".join(f" {sign.lower()}" if sign.isupper() else sign for sign in told[1:]).strip()
        return {"come": f"folk {told}", "pledge": f"pledge {told}"}.get(deed, "done")

    def look(self, desk):
        boon = desk.boon
        for row, giving in (("green", green(boon)), ("sure", sure(boon)), ("greatest", hoped(boon))):
            self.assertEqual(desk.say(row), " ".join(map(str, giving)) or "-")
        self.assertEqual(desk.say("knots"), " ".join("+".join(map(str, knot)) for knot in boon_knots(boon)) or "-")
        self.assertEqual(desk.say("begin"), "+".join(map(str, boon_begins(boon))) or "-")
        for one in there(boon):
            self.assertEqual(desk.say(f"owed {one}"), str(owed(boon, one)))

    def test_rows_told_at_random(self):
        refused = set()
        for seed in range(300, 312):
            chance, desk, model = Chance(seed), Desk(), Model()
            for at in range(120):
                deed, *handed = chance.deed(model)
                row = self.row_of(deed, handed)
                if "-" in row or any(len(word) > 30 and word.isdigit() for word in row.replace(":", " ").split(" ")):
                    self.assertEqual(desk.say(row), BAD)
                    continue
                if row == "hand":
                    self.assertEqual(desk.say(row), BAD)
                    continue
                told = model.do(deed, *handed)
                if at % 3 == 0:
                    try:
                        getattr(desk.boon, deed)(*handed)
                    except BoonError as refusal:
                        self.assertEqual(f"no: {refusal.word}", self.answer_of(deed, told))
                else:
                    answer = desk.say(row)
                    self.assertEqual(answer, self.answer_of(deed, told), row)
                    refused.add(answer)
                self.assertEqual(green(desk.boon), tuple(model.steps))
                self.assertEqual(len(pledges(desk.boon)), len(model.standing))
                if at % 10 == 0:
                    self.look(desk)
        for word in ("no folk", "gone", "bad pledge", "no pledge", "bound", "not due", "bad rise", "nothing left"):
            self.assertIn(f"no: {word}", refused)


if __name__ == "__main__":
    unittest.main()
