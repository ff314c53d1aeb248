"""The parts of ways as lists, and what is asked of ways first of all."""

from waystaken.errors import BadName, TooMany
from waystaken.kinds import ROW
from waystaken.ways import kind_of, made_of, word_of

# What is asked of all texts, or of far ones, is asked of small ways.
MOST_PARTS = 10


def refuse_calls(ways):
    """Raise BadName with the first call in these ways."""
    for way in ways:
        if way.called is not None:
            raise BadName(way.called)


def refuse_parts(ways, most):
    """Raise TooMany if these ways have more parts, all together."""
    if sum([len(way) for way in ways]) > most:
        raise TooMany("parts")


class Parts:
    """The parts of some ways, numbered one after the other.

    For each part the lists tell its kind, its letter, the numbers of the
    parts of which it is made, of the one around it (-1 for a whole way) and
    of those that follow it in a Row. So a part has a lower number than those
    of which it is made. wholes are the numbers of the ways themselves.
    """

    def __init__(self, ways):
        self.kinds = []
        self.words = []
        self.inner = []
        self.above = []
        self.later = []
        self.wholes = []
        for way in ways:
            self.wholes.append(len(self.kinds))
            self.lay_out(way)

    def lay_out(self, whole):
        """Put the parts of a way behind the others."""
        todo = [(whole, -1)]
        while todo:
            way, above = todo.pop()
            number = len(self.kinds)
            self.kinds.append(kind_of(way))
            self.words.append(word_of(way))
            self.inner.append([])
            self.above.append(above)
            self.later.append([])
            if above >= 0:
                self.put_inside(number, above)
            todo.extend([(part, number) for part in made_of(way)[::-1]])

    def put_inside(self, number, above):
        """Note that a part is the last one so far of which another is made."""
        if self.kinds[above] == ROW:
            for earlier in self.inner[above]:
                self.later[earlier].append(number)
        self.inner[above].append(number)

    def path_of(self, part):
        """The path of a part in its whole way."""
        path = ()
        while self.above[part] >= 0:
            path = (self.inner[self.above[part]].index(part), *path)
            part = self.above[part]
        return path

    def number_at(self, path):
        """The number of the part of the first way that has this path."""
        number = self.wholes[0]
        for index in path:
            number = self.inner[number][index]
        return number
