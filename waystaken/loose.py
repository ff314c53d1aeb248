"""Ways read backward as if one might go back.

Which leaves may take the letter at a place, and whether a part may end
without taking any, is told by the bits of a number, its *spread*: a bit for
the slot of each leaf, and one more for the end. How it goes on behind the
leaves is told by a number likewise, the *hope*: the bits of those leaves
behind which some way leads to an end.
"""

from waystaken.backward import ENDS
from waystaken.kinds import AGAIN, AHEAD, CHOICE, MAYBE, ROW, UNLESS


class Loose:
    """What a way might do at places if one might go back."""

    def __init__(self, backward):
        self.backward = backward
        self.parts = backward.parts
        self.end = 1 << len(backward.leaves)

    def spreads_at(self, steps):
        """The spread of each part at the place with these steps."""
        spreads = [0 for _ in steps]
        for part in reversed(range(len(steps))):
            spreads[part] = self.spread_of(part, steps, spreads)
        return spreads

    def spread_of(self, part, steps, spreads):
        """The spread of a part, told by those of the parts of which it is made."""
        kind = self.parts.kinds[part]
        inner = self.parts.inner[part]
        if kind == ROW:
            return self.row_spread(inner, spreads)
        if kind == CHOICE:
            spread = 0
            for number in inner:
                spread = spread | spreads[number]
            return spread
        if kind in (AGAIN, MAYBE):
            return spreads[inner[0]] | self.end
        # The others do what they do if nobody goes back.
        if steps[part] == ENDS:
            return self.end
        return 1 << steps[part] if steps[part] >= 0 else 0

    def row_spread(self, numbers, spreads):
        """The spread of these parts, one behind the other."""
        spread = self.end
        for number in numbers:
            if spread & self.end:
                spread = (spread ^ self.end) | spreads[number]
        return spread

    def behind(self, leaf, spreads):
        """The spread of what follows a leaf at the place with these spreads."""
        part = leaf
        spread = self.end
        while self.parts.above[part] >= 0 and spread & self.end:
            above = self.parts.above[part]
            kind = self.parts.kinds[above]
            if kind in (AHEAD, UNLESS):
                return 0
            if kind == ROW:
                spread = (spread ^ self.end) | self.row_spread(self.parts.later[part], spreads)
            elif kind == AGAIN:
                spread = spread | spreads[above]
            part = above
        return spread

    def leads(self, spread, hope, ended):
        """Whether a spread leads to an end; ended tells if one is here already."""
        # Bits of a hope are those of leaves alone.
        return (spread & hope) != 0 or (ended and (spread & self.end) != 0)

    def hope_at(self, spreads, hope, ended):
        """The hope at the place with these spreads; hope is that of the next place."""
        hoped = 0
        for slot, leaf in enumerate(self.backward.leaves):
            if self.leads(self.behind(leaf, spreads), hope, ended):
                hoped = hoped | (1 << slot)
        return hoped

    def result_at(self, spreads, hope, ended):
        """Whether the way that begins at the place might come to an end."""
        return self.leads(spreads[self.parts.wholes[0]], hope, ended)
