"""Terms, conditions on a giving that are never lost where more is given."""

from loveboon.gifts import MOST_FOLK, MOST_STEP, is_number

MOST_SUM = 99
MOST_DEPTH = 4
FEWEST_PARTS = 2
MOST_PARTS = 6


def is_crowd(many, thing, fewest):
    """Whether it is a crowd of at least so many folk, all below the number."""
    if not isinstance(thing, tuple) or len(thing) < fewest:
        return False
    lowest_left = 0
    for one in thing:
        if not is_number(one, lowest_left, many - 1):
            return False
        lowest_left = one + 1
    return True


def are_parts(many, thing, deep):
    """Whether it is a tuple of two to six terms, each at most so deep."""
    if not isinstance(thing, tuple) or not is_number(len(thing), FEWEST_PARTS, MOST_PARTS):
        return False
    return all([is_term_within(many, part, deep) for part in thing])


def is_term_within(many, thing, deep):
    """Whether it is a term at most so deep that names folk below the number alone."""
    # The depth is counted down, so that tuples nested without end are not followed.
    if deep < 1 or not isinstance(thing, tuple) or len(thing) == 0:
        return False
    kind = thing[0]
    if kind == "free" or kind == "never":
        return len(thing) == 1
    if kind == "gives":
        return len(thing) == 3 and is_number(thing[1], 0, many - 1) and is_number(thing[2], 1, MOST_STEP)
    if kind == "sum":
        return len(thing) == 3 and is_crowd(many, thing[1], 2) and is_number(thing[2], 1, MOST_SUM)
    if kind == "crowd":
        if len(thing) != 4 or not is_crowd(many, thing[1], 1):
            return False
        return is_number(thing[2], 1, MOST_STEP) and is_number(thing[3], 1, MOST_FOLK)
    if kind == "all" or kind == "any":
        return len(thing) == 2 and are_parts(many, thing[1], deep - 1)
    return False


def is_term(many, term):
    """Whether it is a term that names folk below the number alone."""
    return is_term_within(many, term, MOST_DEPTH)


def all_hold(parts, giving):
    """Whether all of some terms hold at a giving."""
    for part in parts:
        if not holds(part, giving):
            return False
    return True


def any_holds(parts, giving):
    """Whether at least one of some terms holds at a giving."""
    for part in parts:
        if holds(part, giving):
            return True
    return False


def holds(term, giving):
    """Whether a term holds at a giving."""
    kind = term[0]
    if kind == "gives":
        return giving[term[1]] >= term[2]
    if kind == "sum":
        return sum([giving[one] for one in term[1]]) >= term[2]
    if kind == "crowd":
        return len([one for one in term[1] if giving[one] >= term[2]]) >= term[3]
    if kind == "all":
        return all_hold(term[1], giving)
    if kind == "any":
        return any_holds(term[1], giving)
    return kind == "free"


def mentions(term):
    """The folk that a term names, as they stand in it."""
    kind = term[0]
    if kind == "gives":
        return [term[1]]
    if kind == "sum" or kind == "crowd":
        return list(term[1])
    if kind == "all" or kind == "any":
        return [one for part in term[1] for one in mentions(part)]
    return []


def named(term):
    """The rising list of all folk that a term names."""
    return sorted(set(mentions(term)))


def depth(term):
    """How many terms stand within one another, itself counted."""
    if term[0] == "all" or term[0] == "any":
        return 1 + max([depth(part) for part in term[1]], default=0)
    return 1


def renamed_crowd(crowd, row):
    """The crowd with row[k] for k, rising again."""
    return tuple(sorted([row[one] for one in crowd]))


def renamed(term, row):
    """The same term with row[k] for k."""
    kind = term[0]
    if kind == "gives":
        return ("gives", row[term[1]], term[2])
    if kind == "sum":
        return ("sum", renamed_crowd(term[1], row), term[2])
    if kind == "crowd":
        return ("crowd", renamed_crowd(term[1], row), term[2], term[3])
    if kind == "all" or kind == "any":
        return (kind, tuple([renamed(part, row) for part in term[1]]))
    return term
