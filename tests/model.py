"""Points 19 to 23 reckoned plainly, and boons told at random beside them."""

import copy

from loveboon.pledges import is_pledge
from tests.looks import HUGE, Maker, due_at, owed_at


class Refused(Exception):
    """What the model refuses, by the name of the class that is told for it."""


class Model:
    """A boon that keeps whole copies of itself to undo and to redo."""

    def __init__(self):
        self.steps, self.left, self.standing, self.next = [], [], {}, 0
        self.past, self.future = [], []

    def kept(self):
        return copy.deepcopy((self.steps, self.left, self.standing, self.next))

    def put(self, kept):
        self.steps, self.left, self.standing, self.next = copy.deepcopy(kept)

    def need(self, fits, name):
        if not fits:
            raise Refused(name)

    def need_there(self, one):
        self.need(one in range(len(self.steps)), "NoFolk")
        self.need(one not in self.left, "Gone")

    def owed(self, one, steps=None, standing=None):
        giving = tuple(self.steps if steps is None else steps)
        entries = self.standing if standing is None else standing
        return max([0] + [owed_at(pledge, giving) for other, pledge in entries.values() if other == one])

    def need_unbound(self, one, standing):
        self.need(self.steps[one] <= self.owed(one, standing=standing), "Bound")

    def come(self):
        self.need(len(self.steps) < 12, "Full")
        self.steps.append(0)
        return len(self.steps) - 1

    def leave(self, one):
        self.need_there(one)
        self.left.append(one)
        self.standing = {number: entry for number, entry in self.standing.items() if entry[0] != one}

    def pledge(self, one, pledge):
        self.need_there(one)
        self.need(is_pledge(len(self.steps), one, pledge), "BadPledge")
        self.need(len(self.standing) < 40, "Full")
        self.standing[self.next] = (one, pledge)
        self.next += 1
        return self.next - 1

    def change(self, number, pledge):
        self.need(number in self.standing, "NoPledge")
        one = self.standing[number][0]
        self.need(is_pledge(len(self.steps), one, pledge), "BadPledge")
        standing = {**self.standing, number: (one, pledge)}
        self.need_unbound(one, standing)
        self.standing = standing

    def withdraw(self, number):
        self.need(number in self.standing, "NoPledge")
        standing = dict(self.standing)
        one = standing.pop(number)[0]
        self.need_unbound(one, standing)
        self.standing = standing

    def hand(self, rises):
        self.need(rises, "BadRise")
        steps = list(self.steps)
        for at, (one, step) in enumerate(rises):
            self.need_there(one)
            self.need(one not in [other for other, _ in rises[:at]], "BadRise")
            self.need(self.steps[one] < step <= 9, "BadRise")
            steps[one] = step
        self.need(all(steps[one] <= self.owed(one, steps=steps) for one, _ in rises), "NotDue")
        self.steps = steps

    def do(self, name, *handed):
        """What a deed tells, or the name of its refusal behind a `!`."""
        ahead = self.kept()
        try:
            if name in ("undo", "redo"):
                here, beyond = (self.past, self.future) if name == "undo" else (self.future, self.past)
                self.need(here, "NothingLeft")
                beyond.append(ahead)
                self.put(here.pop())
                return None
            told = getattr(self, name)(*handed)
        except Refused as refusal:
            self.put(ahead)
            return f"!{refusal}"
        self.past.append(ahead)
        self.future = []
        return told

    def lets_by(self, rises):
        """Whether rises would be let by, asked of a model apart."""
        other = Model()
        other.put(self.kept())
        return other.do("hand", rises) is None

    def book(self):
        return [
            [self.standing[number][1] for number in sorted(self.standing) if self.standing[number][0] == one]
            for one in range(len(self.steps))
        ]

    def come_to(self, giving):
        """What all comes to by what is due, from a giving on."""
        due = due_at(self.book(), tuple(self.steps), giving)
        return giving if due == giving else self.come_to(due)

    def sure(self):
        return self.come_to(tuple(self.steps))

    def hoped(self):
        return self.come_to((9,) * len(self.steps)) if self.steps else ()


class Chance:
    """Deeds told at random, the same ones at each run, not all of which are let by."""

    def __init__(self, seed):
        self.maker = Maker(seed)

    def one(self, model):
        if self.maker.number(0, 15) == 0:
            return (-1, len(model.steps), len(model.steps) + 7, HUGE, -HUGE)[self.maker.number(0, 4)]
        return self.maker.number(0, max(len(model.steps) - 1, 0))

    def some_pledge(self, model, one):
        # Now and then one more of the folk is named than came, or oneself.
        many = min(max(len(model.steps) + (self.maker.number(0, 9) == 0), 1), 12)
        named = self.one(model) if self.maker.number(0, 9) == 0 else one
        return self.maker.pledge(many, named, 3)

    def number(self, model):
        if self.maker.number(0, 9) == 0 or not model.standing:
            return (-1, model.next, model.next + 3, HUGE)[self.maker.number(0, 3)]
        return sorted(model.standing)[self.maker.number(0, len(model.standing) - 1)]

    def rises(self, model):
        if model.steps and self.maker.number(0, 2) > 0:
            # All who would give more in the greatest giving, or just what is owed of one.
            whole = model.hoped()
            at_once = [(one, step) for one, step in enumerate(whole) if step > model.steps[one]]
            alone = [(one, model.owed(one)) for one in range(len(whole)) if model.owed(one) > model.steps[one]]
            if self.maker.number(0, 1) and at_once:
                return at_once
            if alone:
                return [alone[self.maker.number(0, len(alone) - 1)]]
        return [(self.one(model), self.maker.number(-1, 4)) for _ in range(self.maker.number(0, 3))]

    def deed(self, model):
        """A deed's name and what is handed to it."""
        kind = self.maker.number(0, 99)
        if kind < 12 or not model.steps:
            return ("come",)
        if kind < 15:
            return ("leave", self.one(model))
        if kind < 45:
            one = self.one(model)
            return ("pledge", one, self.some_pledge(model, one))
        if kind < 53:
            number = self.number(model)
            one = model.standing[number][0] if number in model.standing else 0
            return ("change", number, self.some_pledge(model, one))
        if kind < 58:
            return ("withdraw", self.number(model))
        if kind < 84:
            return ("hand", self.rises(model))
        return ("undo",) if kind < 93 else ("redo",)
