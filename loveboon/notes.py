"""Terms, pledges and boons as texts, there and back."""

from loveboon.boon import MOST_PLEDGES, Stand, boon_of, owed_of
from loveboon.errors import BadText
from loveboon.gifts import MOST_FOLK, MOST_STEP, is_number
from loveboon.pledges import is_pledge
from loveboon.terms import MOST_DEPTH, is_term

FIGURES = "0123456789"
MOST_FIGURES = 9


def crowd_text(crowd):
    """The numbers of a crowd with a plus between."""
    return "+".join([str(one) for one in crowd])


def term_text(term):
    """A term as a text."""
    kind = term[0]
    if kind == "gives":
        return f"{term[1]}:{term[2]}"
    if kind == "sum":
        return f"{crowd_text(term[1])}:{term[2]}"
    if kind == "crowd":
        return f"{term[3]}*{crowd_text(term[1])}:{term[2]}"
    if kind == "all" or kind == "any":
        sign = "&" if kind == "all" else "|"
        inner = sign.join([term_text(part) for part in term[1]])
        return f"({inner})"
    return kind


def pledge_text(pledge):
    """A pledge as a text."""
    return ",".join([f"{step}?{term_text(term)}" for step, term in pledge])


def read_number(text):
    """The number that is written by at most nine figures, without noughts ahead."""
    # Counted ahead, since a number may have thousands of figures.
    if not is_number(len(text), 1, MOST_FIGURES) or not all([sign in FIGURES for sign in text]):
        raise BadText()
    if text[0] == "0" and len(text) > 1:
        raise BadText()
    return int(text)


def read_crowd(text):
    """The tuple of numbers with a plus between."""
    return tuple([read_number(word) for word in text.split("+")])


def read_plain(text):
    """What is written without brackets; whether it is a term is not asked here."""
    if text == "free" or text == "never":
        return (text,)
    # Where the colon is missing the head is empty, and so no number.
    head, colon, step = text.rpartition(":")
    many, star, crowd = head.rpartition("*")
    if star != "":
        return ("crowd", read_crowd(crowd), read_number(step), read_number(many))
    if "+" in head:
        return ("sum", read_crowd(head), read_number(step))
    return ("gives", read_number(head), read_number(step))


def split_outside(text, sign):
    """The texts between the signs that stand in no brackets."""
    rows = []
    deep = 0
    begin = 0
    for at, found in enumerate(text):
        if found == "(":
            deep += 1
        elif found == ")":
            deep -= 1
        elif found == sign and deep == 0:
            rows.append(text[begin:at])
            begin = at + 1
    return rows + [text[begin:]]


def read_within(text, deep):
    """What is written as a term at most so deep; whether it is one is not asked here."""
    if deep < 1:
        raise BadText()
    if not text.startswith("("):
        return read_plain(text)
    if not text.endswith(")"):
        raise BadText()
    for sign, kind in (("&", "all"), ("|", "any")):
        rows = split_outside(text[1:-1], sign)
        if len(rows) > 1:
            return (kind, tuple([read_within(row, deep - 1) for row in rows]))
    raise BadText()


def read_term(text):
    """The term that a text writes."""
    # Brackets are followed no deeper than a term goes, however many a text has.
    term = read_within(text, MOST_DEPTH)
    if not is_term(MOST_FOLK, term):
        raise BadText()
    return term


def read_rung(text):
    """The rung that a text writes, whatever its step."""
    # Where the sign is missing the term is empty, and so none.
    step, sign, term = text.partition("?")
    return (read_number(step), read_term(term))


def read_pledge(text):
    """The pledge that a text writes, whoever pledges."""
    pledge = tuple([read_rung(row) for row in text.split(",")])
    # The number behind the last of the folk is named by no term: nobody pledges here.
    if not is_pledge(MOST_FOLK, MOST_FOLK, pledge):
        raise BadText()
    return pledge


def page(boon):
    """A boon as a text, with a line end behind each row."""
    stand = boon.now
    rows = [f"folk {len(stand.green)}"]
    rows.extend([f"gone {one}" for one in stand.gone])
    rows.extend([f"green {one} {step}" for one, step in enumerate(stand.green) if step > 0])
    rows.extend([f"pledge {number} {one} {pledge_text(pledge)}" for number, one, pledge in stand.standing])
    rows.append(f"next {stand.coming}")
    return "".join([f"{row}\n" for row in rows])


def words_of(text, kind, many):
    """The words behind the first one of each row of a kind that has so many of them."""
    rows = [row.split(" ") for row in text.split("\n")]
    return [words[1:] for words in rows if words[0] == kind and len(words) == many + 1]


def read_single(text, kind):
    """The number of the only row of a kind."""
    found = words_of(text, kind, 1)
    if len(found) != 1:
        raise BadText()
    return read_number(found[0][0])


def read_below(word, high):
    """A number below the high one."""
    number = read_number(word)
    if number >= high:
        raise BadText()
    return number


def read_gone(text, many):
    """The rising tuple of those who left, of so many folk."""
    return tuple(sorted(set([read_below(words[0], many) for words in words_of(text, "gone", 1)])))


def read_green(text, many):
    """What lies on the green of so many folk."""
    steps = [0] * many
    for words in words_of(text, "green", 2):
        one = read_below(words[0], many)
        steps[one] = read_below(words[1], MOST_STEP + 1)
    return tuple(steps)


def read_standing(text):
    """The standing pledges, by number."""
    entries = {}
    for words in words_of(text, "pledge", 3):
        number = read_number(words[0])
        entries[number] = (number, read_number(words[1]), read_pledge(words[2]))
    return tuple([entries[number] for number in sorted(entries)])


def may_stand(stand):
    """Whether a boon may stand so."""
    many = len(stand.green)
    there = [one for one in range(many) if one not in stand.gone]
    if len(stand.standing) > MOST_PLEDGES:
        return False
    for number, one, pledge in stand.standing:
        if number >= stand.coming or one not in there or not is_pledge(many, one, pledge):
            return False
    return all([stand.green[one] <= owed_of(stand.standing, one, stand.green) for one in there])


def read_page(text):
    """The boon that a text writes."""
    many = read_single(text, "folk")
    if many > MOST_FOLK:
        raise BadText()
    stand = Stand(read_green(text, many), read_gone(text, many), read_standing(text), read_single(text, "next"))
    if not may_stand(stand):
        raise BadText()
    boon = boon_of(stand)
    # Rows that are doubled, out of order or of no kind were not looked for: they are not written anew.
    if page(boon) != text:
        raise BadText()
    return boon
