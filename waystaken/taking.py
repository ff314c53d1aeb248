"""Whether a way of a Choice is taken, read backward beside the ranks.

Call this way the *target*. A part *leads* to it at a place if, when one comes
to the part there, the target is taken in what is read from then on: in the
part, and behind it as far as this goes on. It ends where a look ends, and
where something fails, as then one goes on with what is around that, from
where it has begun. So of the next place a flag for each leaf has to be known:
whether what is read behind the leaf leads to the target. The target fits as
soon as one has come to its end, so it is noted there that it is taken.
"""

from waystaken.backward import ENDS, MISSES
from waystaken.kinds import AGAIN, AHEAD, CHOICE, ROW, UNLESS
from waystaken.search import first_text


class Taking:
    """The way with this number of a Choice of a way that is read backward."""

    def __init__(self, backward, target):
        self.backward = backward
        self.parts = backward.parts
        self.target = target

    def first_taken(self, signs):
        """The first text for which the target is taken, or None."""
        def turned(letter, node):
            state, flags = node
            steps = self.backward.steps_at(letter, state)
            leading = self.leading_at(steps, state, flags)
            behind = tuple([self.is_behind(leaf, steps, leading) for leaf in self.backward.leaves])
            return [(leading[0], (self.backward.state_at(steps, state, MISSES), behind))]

        return first_text(signs, turned("", ((), ())), turned)

    def leading_at(self, steps, state, flags):
        """Whether each part leads to the target at the place with these steps, a list.

        state and flags are those of the next place.
        """
        leading = [step >= 0 and flags[step] for step in steps]
        for part in reversed(range(len(steps))):
            if self.parts.inner[part]:
                leading[part] = self.is_leading(part, steps, state, leading)
        return leading

    def is_leading(self, part, steps, state, leading):
        """Whether a part leads to the target, told by the parts of which it is made."""
        kind = self.parts.kinds[part]
        for number in self.parts.inner[part]:
            if leading[number]:
                return True
            if kind == ROW and steps[number] != ENDS:
                return False
            if kind == CHOICE and self.backward.is_fit(number, state, steps):
                return number == self.target and steps[number] == ENDS
        return False

    def is_behind(self, leaf, steps, leading):
        """Whether what is read behind the leaf, from the place on, leads to the target."""
        part = leaf
        while part != self.target and self.parts.above[part] >= 0:
            above = self.parts.above[part]
            kind = self.parts.kinds[above]
            if kind in (AHEAD, UNLESS):
                return False
            for number in ([above] if kind == AGAIN else self.parts.later[part]):
                if leading[number]:
                    return True
                if steps[number] != ENDS:
                    return False
            part = above
        return part == self.target
