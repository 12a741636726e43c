"""Points 2, 4, 24 and 25 and the interface's section of loveboon/notes.py."""

import itertools
import unittest

from loveboon.asks import coming, folk, green, owed, pledges, there
from loveboon.boon import Boon
from loveboon.errors import BadText, BoonError, NothingLeft
from loveboon.notes import page, pledge_text, read_page, read_pledge, read_term, term_text
from loveboon.pledges import is_pledge
from loveboon.terms import is_term
from tests.looks import FREE, HUGE, NEVER, TERMS, Maker
from tests.model import Chance, Model

WRITTEN_TERMS = (
    (FREE, "free"),
    (NEVER, "never"),
    (("gives", 0, 1), "0:1"),
    (("gives", 11, 9), "11:9"),
    (("sum", (0, 1), 1), "0+1:1"),
    (("sum", (2, 10, 11), 99), "2+10+11:99"),
    (("crowd", (3,), 9, 1), "1*3:9"),
    (("crowd", (0, 1, 2), 4, 12), "12*0+1+2:4"),
    (("crowd", tuple(range(12)), 1, 7), "7*0+1+2+3+4+5+6+7+8+9+10+11:1"),
    (("all", (("gives", 0, 1), ("gives", 1, 2))), "(0:1&1:2)"),
    (("any", (("gives", 0, 1), FREE, NEVER)), "(0:1|free|never)"),
    (("all", (FREE,) * 6), "(free&free&free&free&free&free)"),
    (("any", (NEVER,) * 6), "(never|never|never|never|never|never)"),
    (("all", (("any", (FREE, ("sum", (0, 1), 3))), ("any", (NEVER, ("crowd", (2, 3), 1, 1))))),
     "((free|0+1:3)&(never|1*2+3:1))"),
    (("any", (("all", (("any", (FREE, NEVER)), ("gives", 0, 1))), FREE)), "(((free|never)&0:1)|free)"),
    (("all", (FREE, ("all", (FREE, ("all", (FREE, NEVER)))))), "(free&(free&(free&never)))"),
)
BAD_TERMS = (
    "", " ", "\n", "fre", "Free", "FREE", "free ", " free", "freely", "free\n", "never,", "nevernever", "free:1", "any",
    "all", "gives", "0", "0:", ":1", ":", "0:0", "0:10", "0:99", "12:1", "99:1", "00:1", "0:01", "01:1", "011:1", "+0:1",
    "0:+1", "-0:1", "-1:1", "0:-1", "0 :1", "0: 1", " 0:1", "0:1 ", "0:1\n", "0:1:1", "0::1", "a:1", "0:a", "0:1.0",
    "0.:1", "0:1_0", "1_0:1", "0x1:1", "0;1", "0=1", "0:1?", "0,1:1", "0:1,1:1", "0:1&1:1", "0:1|1:1", "free&free",
    "0+0:1", "1+0:1", "0+2+1:1", "0+1+1:1", "0+12:1", "0+1:0", "0+1:100", "0+1:00", "0+1:01", "0+1:", "0+1", "+1:1",
    "0+:1", "0++1:1", "0+1+:1", "0 + 1:1", "0+-1:1", "0+01:1", "0+1:1+1", "+:1", "0-1:1",
    "*0:1", "1*:1", "1*0", "1*0:", "0*0:1", "13*0:1", "99*0:1", "01*0:1", "1*00:1", "1*0:0", "1*0:10", "1*12:1",
    "1*1+0:1", "1*0+0:1", "1**0:1", "1*1*0:1", "-1*0:1", "+1*0:1", " 1*0:1", "1* 0:1", "1+2*0:1", "1*0+1*2:1",
    "1*free", "2*(0:1&1:1)", "1:1*0", "1*0:1*2",
    "(", ")", "()", "(free)", "((free&free))", "(0:1)", "(free&)", "(&free)", "(&)", "(|)", "(free&&free)",
    "(free||free)", "(free&free", "free&free)", "(free&free))", "((free&free)", "(free&free|free)", "(free|free&free)",
    "(free,free)", "(free free)", "(free+free)", "(free & free)", " (free&free)", "(free&free) ", "( free&free)",
    "(free&free)&(free&free)", "(free&free)free", "free(free&free)", "(free&free)(free&free)", "(free&free)|free",
    "(free&free&free&free&free&free&free)", "(free|free|free|free|free|free|free)", "[free&free]", "(free&fre)",
    "(free&(free))", "(free&())", "(0:1&0:0)", "(0:1|12:1)", ")free&free(", "(free)&(free)", "(free&(free|free)",
    "(free&free)|)", "(free&1+0:1)", "(free&free]", "(0:1&0:11", "(0:1|freee", "(free&free)x", "{free&free}",
    "(free&(free&(free&(free&free))))", "((((free|free)|free)|free)|free)", "(free|(free&(free|(free&free))))",
)


def nested(deep, sign="&"):
    """A text of so many brackets within one another."""
    return f"(free{sign}" * deep + "free" + ")" * deep


class TextTest(unittest.TestCase):
    def refused(self, read, text):
        with self.assertRaises(BoonError, msg=repr(text[:80])) as caught:
            read(text)
        self.assertIs(type(caught.exception), BadText, text[:80])


class TermTextTest(TextTest):
    def test_written_ones(self):
        for term, text in WRITTEN_TERMS:
            self.assertEqual(term_text(term), text)
            self.assertEqual(read_term(text), term)

    def test_there_and_back(self):
        for term in TERMS:
            self.assertEqual(read_term(term_text(term)), term)
        maker = Maker(24)
        texts = set()
        for at in range(600):
            # Of eleven folk, since twelve could sum up to more than 99.
            term = maker.term(range(1, 12), 9, 1 + at % 4)
            text = term_text(term)
            self.assertIs(type(text), str)
            texts.add((term, text))
            self.assertEqual(read_term(text), term)
        self.assertEqual(len({term for term, text in texts}), len({text for term, text in texts}))

    def test_others_are_refused(self):
        for text in BAD_TERMS:
            self.refused(read_term, text)

    def test_long_numbers(self):
        for figures in ("1" * 3, "1" * 9, "1" * 10, "9" * 60, "1" * 4299, "1" * 4301, "7" * 19000, "0" * 19000):
            for text in (f"{figures}:1", f"0:{figures}", f"0+{figures}:1", f"0+1:{figures}", f"{figures}*0+1:1",
                         f"1*0+{figures}:1", f"1*0:{figures}", f"(free&0:{figures})"):
                self.refused(read_term, text)

    def test_depth(self):
        for sign in "&|":
            for deep in range(4):
                self.assertEqual(term_text(read_term(nested(deep, sign))), nested(deep, sign))
            for deep in (4, 5, 10, 100, 500, 2000):
                self.refused(read_term, nested(deep, sign))
        for text in ("(" * 20000, ")" * 20000, "(" * 10000 + ")" * 10000, "(&" * 10000, "(free&" * 3000, "&" * 20000):
            self.refused(read_term, text)

    def test_many_parts(self):
        for many in (2, 6):
            text = "(" + "&".join(["0:1"] * many) + ")"
            self.assertEqual(read_term(text), ("all", (("gives", 0, 1),) * many))
        for many in (0, 1, 7, 8, 3000):
            self.refused(read_term, "(" + "|".join(["0:1"] * many) + ")")

    def test_all_short_texts(self):
        # Whatever is read is a term and is written just so; so noughts, signs and blanks make another text.
        found = 0
        for many in range(7):
            for signs in itertools.product("012:+*&(", repeat=many):
                text = "".join(signs)
                try:
                    term = read_term(text)
                except BadText:
                    continue
                self.assertIs(is_term(12, term), True)
                self.assertEqual(term_text(term), text)
                found += 1
        # Five that give 1 or 2; three pairs for 1, 2, 10, 11, 12, 20, 21, 22 and six with 10 or 11 for 1, 2;
        # of crowds of one 1, 2, 10, 11, 12 of 0, 1, 2 for 1 or 2, and 1 or 2 of 10 or 11.
        self.assertEqual(found, 10 + 24 + 12 + 30 + 8)

    def test_short_texts_with_brackets(self):
        for inner in itertools.product(("free", "0:1", "(", ")", "&", "|"), repeat=5):
            text = "(" + "".join(inner) + ")"
            try:
                term = read_term(text)
            except BadText:
                continue
            self.assertEqual(term_text(term), text)
            self.assertIs(is_term(12, term), True)


class PledgeTextTest(TextTest):
    def test_written_ones(self):
        for pledge, text in (
            (((1, FREE),), "1?free"),
            (((9, ("gives", 11, 9)),), "9?11:9"),
            (((1, FREE), (2, ("gives", 1, 1))), "1?free,2?1:1"),
            (((2, ("sum", (0, 1), 4)), (3, ("any", (NEVER, ("crowd", (4, 5), 1, 2))))), "2?0+1:4,3?(never|2*4+5:1)"),
            (tuple((step, NEVER) for step in range(1, 10)), ",".join(f"{step}?never" for step in range(1, 10))),
        ):
            self.assertEqual(pledge_text(pledge), text)
            self.assertEqual(read_pledge(text), pledge)

    def test_there_and_back(self):
        maker = Maker(10)
        for at in range(300):
            pledge = maker.pledge(12, at % 12, 9)
            self.assertEqual(read_pledge(pledge_text(pledge)), pledge)

    def test_whoever_pledges(self):
        for one in range(12):
            self.assertEqual(read_pledge(f"1?{one}:1"), ((1, ("gives", one, 1)),))
        everybody = "12*0+1+2+3+4+5+6+7+8+9+10+11:1"
        self.assertEqual(read_pledge(f"1?{everybody}"), ((1, ("crowd", tuple(range(12)), 1, 12)),))

    def test_others_are_refused(self):
        for text in BAD_TERMS:
            self.refused(read_pledge, f"1?{text}")
            self.refused(read_pledge, f"1?free,2?{text}")
        for text in (
            "", "?", ",", "1", "1?", "?free", "free", "0?free", "10?free", "01?free", "-1?free", "+1?free", "1??free",
            "1?free?", "1 ?free", "1? free", " 1?free", "1?free ", "1?free,", ",1?free", "1?free,,2?free", "1?free, 2?free",
            "1?free;2?free", "1?free2?free", "2?free,1?free", "1?free,1?free", "1?free,3?free,2?free", "1?free,10?free",
            "1?free\n", "1:free", "a?free", "1?free,2", "1?free,free", "(1?free)", "1?free,2?free,2?never", "99?free",
        ):
            self.refused(read_pledge, text)

    def test_ten_rungs(self):
        nine = ",".join(f"{step}?free" for step in range(1, 10))
        self.assertEqual(len(read_pledge(nine)), 9)
        for more in ("10?free", "9?free", "0?free"):
            self.refused(read_pledge, f"{nine},{more}")
            self.refused(read_pledge, f"{more},{nine}")
        self.refused(read_pledge, ",".join(["1?free"] * 2500))

    def test_long_numbers(self):
        for figures in ("1" * 10, "1" * 60, "1" * 5000, "0" * 5000, "0" * 19000):
            self.refused(read_pledge, f"{figures}?free")
            self.refused(read_pledge, f"1?free,{figures}?free")


def laid():
    """A boon of five, 1 and 3 of whom left; 1, 2 and 4 have something on the green."""
    boon = Boon()
    for _ in range(5):
        boon.come()
    boon.pledge(1, ((3, FREE),))
    boon.pledge(4, ((1, ("gives", 1, 3)), (4, ("gives", 2, 2))))
    boon.pledge(2, ((2, ("gives", 4, 4)),))
    boon.pledge(0, ((1, ("any", (NEVER, ("sum", (1, 2), 9)))),))
    boon.hand([(1, 3), (4, 4), (2, 2)])
    boon.leave(3)
    boon.leave(1)
    boon.pledge(0, ((2, FREE),))
    boon.withdraw(4)
    return boon


LAID = """folk 5
gone 1
gone 3
green 1 3
green 2 2
green 4 4
pledge 1 4 1?1:3,4?2:2
pledge 2 2 2?4:4
pledge 3 0 1?(never|1+2:9)
next 5
"""


class PageTest(TextTest):
    def refused_page(self, text):
        self.refused(read_page, text)

    def refused_instead(self, old, new, text=LAID):
        self.assertEqual(text.count(old), 1)
        self.refused_page(text.replace(old, new))

    def read_instead(self, old, new, text=LAID):
        self.assertEqual(text.count(old), 1)
        changed = text.replace(old, new)
        self.assertEqual(page(read_page(changed)), changed)

    def test_of_nobody(self):
        self.assertEqual(page(Boon()), "folk 0\nnext 0\n")
        boon = read_page("folk 0\nnext 0\n")
        self.assertEqual((folk(boon), coming(boon), boon.come()), (0, 0, 0))
        for text in ("", "\n", "folk 0\n", "next 0\n", "folk 0\nnext 0", "folk 0 next 0\n", "folk 0\n\nnext 0\n",
                     "next 0\nfolk 0\n", "folk 0\nnext 0\n\n", "\nfolk 0\nnext 0\n", "folk 0\nnext 0\n ",
                     "folk 0\nfolk 0\nnext 0\n", "folk 0\nnext 0\nnext 0\n", "folk 00\nnext 0\n", "folk 0\nnext 00\n",
                     "folk 0\ngone 0\nnext 0\n", "folk 0\ngreen 0 1\nnext 0\n", "folk 0\npledge 0 0 1?free\nnext 1\n",
                     "folk  0\nnext 0\n", "Folk 0\nnext 0\n", "folk 0 \nnext 0\n", "folk\nnext\n", "folk -1\nnext 0\n"):
            self.refused_page(text)

    def test_written(self):
        self.assertEqual(page(laid()), LAID)

    def test_there_and_back(self):
        boon = read_page(LAID)
        self.assertIs(type(boon), Boon)
        self.assertEqual((folk(boon), there(boon), green(boon), coming(boon)), (5, [0, 2, 4], (0, 3, 2, 0, 4), 5))
        self.assertEqual(pledges(boon), pledges(laid()))
        self.assertEqual(page(boon), LAID)

    def test_nothing_to_undo_or_redo(self):
        boon = read_page(LAID)
        self.assertEqual((boon.undoable(), boon.redoable()), (0, 0))
        for deed in (boon.undo, boon.redo):
            with self.assertRaises(NothingLeft):
                deed()
        self.assertEqual((boon.come(), boon.pledge(5, ((1, FREE),))), (5, 5))
        boon.undo()
        boon.undo()
        self.assertEqual((page(boon), boon.undoable()), (LAID, 0))

    def test_two_that_are_read_go_their_own_ways(self):
        one, other = read_page(LAID), read_page(LAID)
        one.leave(4)
        self.assertEqual(page(other), LAID)

    def test_rows_left_out_doubled_or_elsewhere(self):
        rows = LAID.split("\n")[:-1]
        for at, row in enumerate(rows):
            others = rows[:at] + rows[at + 1:]
            for place in range(len(rows)):
                moved = others[:place] + [row] + others[place:]
                if moved != rows:
                    self.refused_page("".join(f"{line}\n" for line in moved))
            for place in range(len(rows) + 1):
                doubled = rows[:place] + [row] + rows[place:]
                self.refused_page("".join(f"{line}\n" for line in doubled))
        # What is left may be a page, too: then it is read as it stands.
        for at, fits in enumerate((False, False, True, True, False, False, False, False, True, False)):
            text = "".join(f"{line}\n" for line in rows[:at] + rows[at + 1:])
            if fits:
                self.assertEqual(page(read_page(text)), text)
            else:
                self.refused_page(text)

    def test_line_ends_and_blanks(self):
        self.refused_page(LAID[:-1])
        self.refused_page(LAID + "\n")
        self.refused_page("\n" + LAID)
        self.refused_page(LAID.replace("\n", " \n"))
        self.refused_page(LAID.replace("\n", "\n "))
        self.refused_page(LAID.replace("\n", "\n\n"))
        self.refused_page(LAID.replace(" ", "  "))
        for at in range(len(LAID)):
            self.refused_page(LAID[:at] + " " + LAID[at:])
            self.refused_page(LAID[:at] + "\n" + LAID[at:])
            self.refused_page(LAID[:at])

    def test_rows_of_no_kind(self):
        for row in ("gone", "green 1", "green 1 3 3", "pledge 1 4", "pledge 1 4 1?free 2?free", "next", "folk 5 5", "more",
                    "gone 1 1", "GONE 1", "goner 1", "#", "come"):
            self.refused_page(LAID.replace("gone 3\n", f"gone 3\n{row}\n"))
            self.refused_page(LAID.replace("gone 3\n", f"{row}\n"))

    def test_how_many_came(self):
        self.read_instead("folk 5", "folk 6")
        self.read_instead("folk 5", "folk 12")
        for many in ("13", "14", "4", "0", "05", "-5", "+5", "five", "", "5.0", "999999999", "1" * 10, "1" * 60, "1" * 5000):
            self.refused_instead("folk 5", f"folk {many}")
        twelve = "folk 12\n" + "".join(f"gone {one}\n" for one in range(12)) + "next 0\n"
        self.assertEqual(there(read_page(twelve)), [])
        self.refused_page(twelve.replace("folk 12", "folk 13"))
        self.refused_page(twelve.replace("next", "gone 12\nnext"))

    def test_who_left(self):
        for one in ("5", "11", "12", "03", "-1", "3 ", "x", "1" * 10, "1" * 5000):
            self.refused_instead("gone 3", f"gone {one}")
        self.refused_instead("gone 3", "gone 1")
        # Rows have to rise.
        self.refused_instead("gone 3", "gone 0")
        self.refused_page(LAID.replace("gone 1\ngone 3", "gone 3\ngone 1"))
        # A pledge of one who left.
        self.refused_instead("gone 3", "gone 4")
        # Who is there now may have no more on the green than is owed, though no pledge is left.
        self.refused_instead("gone 1\n", "")

    def test_what_lies_there(self):
        for step in ("0", "10", "04", "-1", "11", "four", "1" * 10, "1" * 5000):
            self.refused_instead("green 4 4", f"green 4 {step}")
            self.refused_instead("green 1 3", f"green 1 {step}")
        for one in ("5", "12", "04", "-4", "1" * 60):
            self.refused_instead("green 4 4", f"green {one} 4")
        self.refused_page(LAID.replace("green 1 3\ngreen 2 2", "green 2 2\ngreen 1 3"))

    def test_no_more_than_is_owed(self):
        # Of who is there: 2 owes 2, as long as 4 gives 4, and 4 owes 4, as long as 2 gives 2.
        self.read_instead("green 1 3", "green 1 9")
        self.read_instead("green 1 3\n", "")
        self.refused_instead("green 1 3", "green 0 1\ngreen 1 3")
        self.read_instead("green 1 3", "green 0 1\ngreen 1 7")
        self.refused_instead("green 2 2", "green 2 3")
        self.refused_instead("green 2 2", "green 2 1")
        self.refused_instead("green 2 2\n", "")
        self.refused_instead("green 4 4", "green 4 3")
        self.refused_instead("green 4 4", "green 4 5")
        self.refused_instead("green 4 4\n", "")
        self.read_instead("green 2 2\ngreen 4 4\n", "")
        self.read_instead("green 2 2\ngreen 4 4\n", "green 4 1\n")
        self.refused_instead("green 2 2\ngreen 4 4\n", "green 4 2\n")
        # Of who left anything may lie there.
        self.read_instead("green 4 4", "green 3 9\ngreen 4 4")

    def test_pledges_that_are_none(self):
        for pledge in BAD_TERMS:
            self.refused_instead("(never|1+2:9)", pledge)
        for pledge in ("1?0:1", "1?(free&0+1:2)", "1?5:1", "1?11:1", "0?free", "10?free", "2?free,1?free", "", "free"):
            self.refused_instead("1?(never|1+2:9)", pledge)
        self.read_instead("1?(never|1+2:9)", "1?3:1,9?(free&1+3:99)")
        self.refused_instead("folk 5", "folk 4")
        for one in ("1", "3", "5", "12", "00", "-1", "1" * 60):
            self.refused_instead("pledge 3 0", f"pledge 3 {one}")

    def test_numbers_of_pledges(self):
        for number in ("2", "1", "0", "5", "6", "03", "-1", "1" * 10, "1" * 5000):
            self.refused_instead("pledge 3 0", f"pledge {number} 0")
        self.read_instead("pledge 3 0", "pledge 4 0")
        self.refused_page(LAID.replace("pledge 1 4", "pledge 4 4"))

    def test_the_next_number(self):
        for number in ("4", "6", "123456789", "999999999"):
            self.read_instead("next 5", f"next {number}")
        for number in ("3", "2", "0", "05", "-5", "", "1000000000", "9" * 10, "1" * 60, "1" * 5000, str(HUGE)):
            self.refused_instead("next 5", f"next {number}")
        self.assertEqual(page(read_page("folk 1\nnext 7\n")), "folk 1\nnext 7\n")
        far = "folk 1\npledge 999999998 0 1?free\nnext 999999999\n"
        boon = read_page(far)
        self.assertEqual((page(boon), boon.pledge(0, ((2, FREE),))), (far, 999999999))
        # What is written of it now has ten figures, and such a page is none.
        self.refused_page(page(boon))
        self.refused_page("folk 1\npledge 999999999 0 1?free\nnext 1000000000\n")

    def test_forty_and_forty_one_pledges(self):
        for many in (39, 40, 41, 60):
            text = "folk 2\n" + "".join(f"pledge {at} {at % 2} 1?free\n" for at in range(many)) + f"next {many}\n"
            if many > 40:
                self.refused_page(text)
            else:
                self.assertEqual(page(read_page(text)), text)
                self.assertEqual(len(pledges(read_page(text))), many)

    def test_any_other_sign(self):
        # Whatever is read is written just so, and nobody there has more on the green than is owed.
        read = 0
        for at in range(len(LAID)):
            for sign in "019-+ \n:?,gx":
                text = LAID[:at] + sign + LAID[at + 1:]
                try:
                    boon = read_page(text)
                except BadText:
                    continue
                read += 1
                self.assertEqual(page(boon), text)
                self.assertTrue(all(green(boon)[one] <= owed(boon, one) for one in there(boon)))
                self.assertTrue(all(is_pledge(folk(boon), one, pledge) for _, one, pledge in pledges(boon)))
        self.assertGreater(read, 20)

    def test_pages_told_at_random(self):
        for seed in range(200, 215):
            chance, boon, model = Chance(seed), Boon(), Model()
            for _ in range(60):
                deed, *handed = chance.deed(model)
                model.do(deed, *handed)
                try:
                    getattr(boon, deed)(*handed)
                except BoonError:
                    pass
                text = page(boon)
                other = read_page(text)
                self.assertEqual(page(other), text)
                self.assertEqual(pledges(other), pledges(boon))
                self.assertEqual((other.undoable(), other.redoable()), (0, 0))
                self.assertEqual((green(other), there(other)), (green(boon), there(boon)))


if __name__ == "__main__":
    unittest.main()
