"""Whether a way of a Choice is taken, read backward beside the ranks.

Call this way the *target*. When one comes to a part at a place, some things
are read there before the part itself takes a letter: ways that do not fit,
looks, parts that take nothing. The part is *met* if the target is taken among
these. Then a leaf takes the letter, and one goes on behind it at the next
place, at most up to the end of what is around it or until this fails. So of
the next place one flag for each leaf has to be known: whether the target is
taken in what is read behind the leaf. As the target fits as soon as one has
come to its end, it is noted there that it is taken.
"""

from waystaken.backward import ENDS, MISSES
from waystaken.kinds import AGAIN, AHEAD, CHOICE, ROW, UNLESS
from waystaken.search import first_text


class Taking:
    """The way with this number of a Choice of a way that is read backward."""

    def __init__(self, backward, target):
        self.backward = backward
        self.parts = backward.parts
        self.target = target

    def first_taken(self, signs):
        """The first text for which the target is taken, or None."""
        def turned(letter, node):
            state, flags = node
            steps = self.backward.steps_at(letter, state)
            met = self.met_at(steps, state, flags)
            behind = tuple([self.is_behind(leaf, steps, flags, met) for leaf in self.backward.leaves])
            shown = met[0] or leads(steps[0], flags)
            return [(shown, (self.backward.state_at(steps, state, MISSES), behind))]

        return first_text(signs, turned("", ((), ())), turned)

    def met_at(self, steps, state, flags):
        """Whether each part is met at the place with these steps, a list.

        state and flags are those of the next place.
        """
        met = [False for _ in steps]
        for part in reversed(range(len(steps))):
            met[part] = self.is_met(part, steps, state, flags, met)
        return met

    def is_met(self, part, steps, state, flags, met):
        """Whether a part is met, told by the parts of which it is made."""
        kind = self.parts.kinds[part]
        inner = self.parts.inner[part]
        for number in inner:
            if met[number]:
                return True
            if kind == ROW:
                if steps[number] != ENDS:
                    return False
            elif self.is_gone_with(kind, number, number == inner[-1], steps, state):
                return number == self.target and steps[number] == ENDS
            elif leads(steps[number], flags):
                return True
        return False

    def is_gone_with(self, kind, number, is_last, steps, state):
        """Whether a part around this one, of this kind, takes what it takes, if it fits."""
        if kind in (AHEAD, UNLESS):
            return False
        # What the last way of a Choice does, the Choice does, too.
        return (kind == CHOICE and is_last) or self.backward.is_fit(number, state, steps)

    def is_behind(self, leaf, steps, flags, met):
        """Whether the target is taken in what is read behind the leaf at the place."""
        part = leaf
        while part != self.target and self.parts.above[part] >= 0:
            above = self.parts.above[part]
            kind = self.parts.kinds[above]
            if kind in (AHEAD, UNLESS):
                return False
            for number in ([above] if kind == AGAIN else self.parts.later[part]):
                if met[number]:
                    return True
                if steps[number] != ENDS:
                    return leads(steps[number], flags)
            part = above
        return part == self.target


def leads(step, flags):
    """Whether the target is taken behind the leaf of this step, if it is one."""
    return step >= 0 and flags[step]
