"""Faith: what comes where a crowd begins unasked, and what falls without somebody's pledges."""

from loveboon.gifts import lifted
from loveboon.rounds import greatest, least


def begun(book, floor, crowd):
    """What comes if a crowd begins."""
    return least(book, lifted(floor, greatest(book, floor), crowd))


def with_one_more(book, whole, crowd, giving):
    """The crowds with one more behind, each with what comes then; the giving comes of the crowd itself."""
    # Whoever gives the whole step already is of no use: no crowd of the fewest has such a one.
    folk = [one for one, step in enumerate(giving) if step < whole[one]]
    return [
        (crowd + [one], least(book, lifted(giving, whole, [one])))
        for one in folk if len(crowd) == 0 or one > crowd[-1]
    ]


def begins(book, floor):
    """The fewest that begin."""
    whole = greatest(book, floor)
    pairs = [([], least(book, floor))]
    while True:
        for crowd, giving in pairs:
            if giving == whole:
                return crowd
        # In order as lists are, since crowds of the same length are lengthened in order.
        pairs = [pair for crowd, giving in pairs for pair in with_one_more(book, whole, crowd, giving)]


def without(book, floor, one):
    """The greatest giving without one's pledges."""
    return greatest([[] if other == one else pledges for other, pledges in enumerate(book)], floor)


def lost(book, floor, one):
    """The rising list of all others who give less without one's pledges."""
    whole = greatest(book, floor)
    left = without(book, floor, one)
    return [other for other, step in enumerate(left) if other != one and step < whole[other]]
