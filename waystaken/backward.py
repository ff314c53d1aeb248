"""Ways read at every place of a text, from its end to its start.

What ways do at a place hangs on the letter there and on little of what they
do at the next place. Call a part *tried* if what is around it asks whether
it fits: each way of a Choice but the last one, the part of an Again, Maybe,
Ahead or Unless, and each whole way. When a leaf (a Letter or a One) has taken
its letter, one goes on at the next place; of this no more has to be known
than which of the tried parts around the leaf will fit. If a part fits, those
within it have fitted before, so for each leaf one number tells it, its *rank*:
the least one of

    0             if the whole way will end at the marked place,
    around[part]  for each tried part around the leaf that will fit,
    around[leaf] + 1 at most if there is none.

around[part] is one more than the number of the tried parts around a part. So
the rank of a whole way that fits is 1, and one can do without this rank where
it is enough to know whether a way ends at the marked place.

The *state* at a place is the tuple of the ranks of all leaves; its *steps*
tell of each part what happens first when one comes to it: FAILS, ENDS (it
takes nothing), or the slot of the leaf that takes the letter here.
"""

from waystaken.kinds import AGAIN, AHEAD, CHOICE, LETTER, MAYBE, NOTHING, ONE, ROW, UNLESS
from waystaken.parts import Parts, refuse_calls, refuse_parts

FAILS = -2
ENDS = -1

# What a whole way does, told by its rank.
HITS = 0
FITS = 1
MISSES = 2


def asked(ways, most):
    """The ways, ready to be read backward, if they may be asked with at most so many parts."""
    refuse_calls(ways)
    refuse_parts(ways, most)
    return Backward(ways)


def are_tried(parts):
    """Whether each part is tried, a list."""
    tried = [above == -1 for above in parts.above]
    for part, inner in enumerate(parts.inner):
        if parts.kinds[part] == CHOICE:
            inner = inner[:-1]
        if parts.kinds[part] != ROW:
            for number in inner:
                tried[number] = True
    return tried


def counts_around(parts):
    """For each part one more than the number of the tried parts around it."""
    tried = are_tried(parts)
    around = []
    for above in parts.above:
        if above == -1:
            around.append(1)
        else:
            around.append(around[above] + (1 if tried[above] else 0))
    return around


class Backward:
    """Some ways, to be read at places from the end of a text on."""

    def __init__(self, ways):
        self.parts = Parts(ways)
        self.around = counts_around(self.parts)
        self.leaves = [part for part, kind in enumerate(self.parts.kinds) if kind in (LETTER, ONE)]
        self.slots = {leaf: slot for slot, leaf in enumerate(self.leaves)}

    def steps_at(self, letter, state):
        """The steps at a place with this letter; state is that of the next place.

        The letter is "" at the end of the text, where the state is not asked.
        """
        steps = [FAILS for _ in self.parts.kinds]
        for part in reversed(range(len(steps))):
            steps[part] = self.step_of(part, letter, state, steps)
        return steps

    def step_of(self, part, letter, state, steps):
        """The step of a part, told by those of the parts of which it is made."""
        kind = self.parts.kinds[part]
        if kind == LETTER:
            return self.slots[part] if letter == self.parts.words[part] else FAILS
        if kind == ONE:
            return self.slots[part] if letter != "" else FAILS
        if kind == NOTHING:
            return ENDS
        inner = self.parts.inner[part]
        if kind == ROW:
            return first_step(inner, steps)
        if kind == CHOICE:
            for number in inner[:-1]:
                if self.is_fit(number, state, steps):
                    return steps[number]
            return steps[inner[-1]]
        fit = self.is_fit(inner[0], state, steps)
        if kind in (AGAIN, MAYBE):
            return steps[inner[0]] if fit else ENDS
        return ENDS if fit == (kind == AHEAD) else FAILS

    def is_fit(self, part, state, steps):
        """Whether a tried part fits at the place with these steps."""
        step = steps[part]
        return step == ENDS or (step >= 0 and state[step] <= self.around[part])

    def go_on(self, leaf, steps):
        """How one goes on behind a leaf at the place with these steps.

        A pair: the last one of the parts around the leaf that end here, and
        the step behind it; ENDS if nothing is to follow.
        """
        part = leaf
        while self.parts.above[part] >= 0:
            above = self.parts.above[part]
            kind = self.parts.kinds[above]
            if kind in (AHEAD, UNLESS):
                return part, ENDS
            step = ENDS
            if kind == ROW:
                step = first_step(self.parts.later[part], steps)
            elif kind == AGAIN:
                step = steps[above]
            if step != ENDS:
                return part, step
            part = above
        return part, ENDS

    def state_at(self, steps, state, worth):
        """The state at the place with these steps; state is that of the next place.

        worth is the rank of a whole way that ends here: HITS if the place is
        the marked one, otherwise FITS, or MISSES if nobody asks for those.
        """
        ranks = []
        for leaf in self.leaves:
            part, step = self.go_on(leaf, steps)
            if step >= 0:
                ranks.append(min(state[step], self.around[part]))
            elif self.parts.above[part] == -1:
                ranks.append(worth)
            else:
                ranks.append(self.around[part])
        return tuple(ranks)

    def results_at(self, steps, state, worth):
        """What each whole way does that begins at the place: its rank, MISSES at most."""
        results = []
        for part in self.parts.wholes:
            step = steps[part]
            if step >= 0:
                results.append(min(state[step], MISSES))
            else:
                results.append(worth if step == ENDS else MISSES)
        return results

    def turned(self, letter, state, worth):
        """The results at a place with this letter, a tuple, and the state there."""
        steps = self.steps_at(letter, state)
        return tuple(self.results_at(steps, state, worth)), self.state_at(steps, state, worth)


def first_step(numbers, steps):
    """The step of these parts, one behind the other."""
    for number in numbers:
        if steps[number] != ENDS:
            return steps[number]
    return ENDS
