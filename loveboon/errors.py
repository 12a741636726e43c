"""Refusals, each a class of its own with its word."""


class BoonError(ValueError):
    """Any refusal."""

    def __init__(self, word):
        ValueError.__init__(self, word)
        self.word = word


class BadGiving(BoonError):
    """What is handed in as a giving is none of the box."""

    def __init__(self):
        BoonError.__init__(self, "bad giving")


class BadPledge(BoonError):
    """What is handed in as a pledge is none."""

    def __init__(self):
        BoonError.__init__(self, "bad pledge")


class TooMany(BoonError):
    """A box has more givings than are looked through."""

    def __init__(self):
        BoonError.__init__(self, "too many")


class NotKept(BoonError):
    """Somebody gives more than is due."""

    def __init__(self):
        BoonError.__init__(self, "not kept")


class NotClear(BoonError):
    """Somebody still owes."""

    def __init__(self):
        BoonError.__init__(self, "not clear")


class NotEven(BoonError):
    """Somebody gives more than is due, or still owes."""

    def __init__(self):
        BoonError.__init__(self, "not even")


class NoFolk(BoonError):
    """Nobody came under that number."""

    def __init__(self):
        BoonError.__init__(self, "no folk")


class Gone(BoonError):
    """The one who is asked for has left."""

    def __init__(self):
        BoonError.__init__(self, "gone")


class NoPledge(BoonError):
    """No pledge stands under that number."""

    def __init__(self):
        BoonError.__init__(self, "no pledge")


class Bound(BoonError):
    """What lies on the green hangs on the pledge."""

    def __init__(self):
        BoonError.__init__(self, "bound")


class NotDue(BoonError):
    """Somebody would hand in more than is owed."""

    def __init__(self):
        BoonError.__init__(self, "not due")


class BadRise(BoonError):
    """What is handed in as rises is none."""

    def __init__(self):
        BoonError.__init__(self, "bad rise")


class Full(BoonError):
    """There is no place for one more."""

    def __init__(self):
        BoonError.__init__(self, "full")


class NothingLeft(BoonError):
    """There is nothing to undo or to redo."""

    def __init__(self):
        BoonError.__init__(self, "nothing left")


class BadText(BoonError):
    """The text is not written as told."""

    def __init__(self):
        BoonError.__init__(self, "bad text")
