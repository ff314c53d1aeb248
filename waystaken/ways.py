"""Ways, of what they are made, how they are read, and their texts."""

from waystaken.kinds import AGAIN, AHEAD, CALL, CHOICE, LETTER, MAYBE, NOTHING, ONE, ROW, UNLESS
from waystaken.scanning import Scan

NOWHERE = -1


class Mark:
    """Tells an Again from all others, equal ones, too, as a key of a dict."""


class Way:
    """What all ways have in common.

    Beside what it is made of, a way notes the name of its first call (called,
    None if there is none), and how many Agains stand within one another in it
    (rounds).
    """

    def end_at(self, text, place, known):
        """Where the way ends that is read at the place, NOWHERE if it does not fit.

        known is None, or what Agains remember of this text: for the mark of
        each a dict of places and ends. Ways with calls are not read.
        """
        raise NotImplementedError()

    @classmethod
    def read(cls, text):
        """The way of which this is a text; BadText if there is none."""
        return way_of_steps(Scan(text, 1).read_way())

    def at(self, path):
        """The part with this path, None if there is none."""
        part = self
        for index in path:
            inner = made_of(part)
            if index >= len(inner):
                return None
            part = inner[index]
        return part

    def __eq__(self, other):
        return isinstance(other, Way) and same_ways(self, other)

    def __len__(self):
        return len(parts_of(self))

    def __str__(self):
        return "".join(pieces_of(self))

    def __add__(self, other):
        return Row([self, other])

    def __or__(self, other):
        return Choice([self, other])


class Letter(Way):
    """Takes this letter."""

    def __init__(self, letter):
        self.letter = letter
        self.called = None
        self.rounds = 0

    def end_at(self, text, place, known):
        return place + 1 if text[place:place + 1] == self.letter else NOWHERE


class One(Way):
    """Takes one letter, whichever it is."""

    def __init__(self):
        self.called = None
        self.rounds = 0

    def end_at(self, text, place, known):
        return place + 1 if place < len(text) else NOWHERE


class Nothing(Way):
    """Fits always and takes nothing."""

    def __init__(self):
        self.called = None
        self.rounds = 0

    def end_at(self, text, place, known):
        return place


class Row(Way):
    """One way behind the other."""

    def __init__(self, ways):
        self.ways = tuple(ways)
        self.called = first_call(self.ways)
        self.rounds = most_rounds(self.ways)

    def end_at(self, text, place, known):
        for part in self.ways:
            place = part.end_at(text, place, known)
            if place == NOWHERE:
                return NOWHERE
        return place


class Choice(Way):
    """The first of the ways that fits."""

    def __init__(self, ways):
        self.ways = tuple(ways)
        self.called = first_call(self.ways)
        self.rounds = most_rounds(self.ways)

    def end_at(self, text, place, known):
        for part in self.ways:
            end = part.end_at(text, place, known)
            if end != NOWHERE:
                return end
        return NOWHERE


class Again(Way):
    """Its part as often as it fits and takes letters."""

    def __init__(self, part):
        self.part = part
        self.called = part.called
        self.rounds = part.rounds + 1
        self.mark = Mark()

    def end_at(self, text, place, known):
        if known is not None:
            return self.known_end(text, place, known)
        # Each of its rounds may come to the Agains within it at the same
        # places again, so these remember how they end.
        if self.rounds > 1:
            known = {}
        end = self.part.end_at(text, place, known)
        while end > place:
            place = end
            end = self.part.end_at(text, place, known)
        return place

    def known_end(self, text, place, known):
        """Where it ends; all rounds up to one that is known end there, too."""
        ends = known.setdefault(self.mark, {})
        begun = []
        while place not in ends:
            begun.append(place)
            end = self.part.end_at(text, place, known)
            if end > place:
                place = end
            else:
                ends[place] = place
        last = ends[place]
        for start in begun:
            ends[start] = last
        return last


class Maybe(Way):
    """Its part if it fits, or else nothing."""

    def __init__(self, part):
        self.part = part
        self.called = part.called
        self.rounds = part.rounds

    def end_at(self, text, place, known):
        end = self.part.end_at(text, place, known)
        return place if end == NOWHERE else end


class Ahead(Way):
    """Fits where its part fits, and takes nothing."""

    def __init__(self, part):
        self.part = part
        self.called = part.called
        self.rounds = part.rounds

    def end_at(self, text, place, known):
        return NOWHERE if self.part.end_at(text, place, known) == NOWHERE else place


class Unless(Way):
    """Fits where its part does not fit, and takes nothing."""

    def __init__(self, part):
        self.part = part
        self.called = part.called
        self.rounds = part.rounds

    def end_at(self, text, place, known):
        return place if self.part.end_at(text, place, known) == NOWHERE else NOWHERE


class Call(Way):
    """Stands for the way of the rule with this name."""

    def __init__(self, name):
        self.name = name
        self.called = name
        self.rounds = 0


def first_call(ways):
    """The name of the first call in these ways, None if there is none."""
    calls = [way.called for way in ways if way.called is not None]
    return calls[0] if calls else None


def most_rounds(ways):
    """How many Agains stand within one another in one of these ways."""
    return max([way.rounds for way in ways], default=0)


def kind_of(way):
    """The number of the kind of a way."""
    if isinstance(way, Letter):
        return LETTER
    if isinstance(way, One):
        return ONE
    if isinstance(way, Nothing):
        return NOTHING
    if isinstance(way, Row):
        return ROW
    if isinstance(way, Choice):
        return CHOICE
    if isinstance(way, Again):
        return AGAIN
    if isinstance(way, Maybe):
        return MAYBE
    if isinstance(way, Ahead):
        return AHEAD
    if isinstance(way, Unless):
        return UNLESS
    return CALL


def word_of(way):
    """The letter of a Letter, the name of a Call, "" for others."""
    if isinstance(way, Letter):
        return way.letter
    if isinstance(way, Call):
        return way.name
    return ""


def made_of(way):
    """The ways of which a way is made, a tuple."""
    if isinstance(way, (Row, Choice)):
        return way.ways
    if isinstance(way, (Again, Maybe, Ahead, Unless)):
        return (way.part,)
    return ()


def parts_of(way):
    """All parts of a way, one after the other."""
    # A way that was read may be nested deeper than calls may be, so this and
    # what follows keep what is left to do in a list.
    parts = []
    todo = [way]
    while todo:
        part = todo.pop()
        parts.append(part)
        todo.extend(made_of(part)[::-1])
    return parts


def same_ways(one, other):
    """Whether two ways are equal all the way down."""
    todo = [(one, other)]
    while todo:
        left, right = todo.pop()
        if kind_of(left) != kind_of(right) or word_of(left) != word_of(right):
            return False
        if len(made_of(left)) != len(made_of(right)):
            return False
        todo.extend(list(zip(made_of(left), made_of(right))))
    return True


def pieces_of(way):
    """The pieces of the text of a way, a list of strings."""
    pieces = []
    todo = [way]
    while todo:
        piece = todo.pop()
        if isinstance(piece, str):
            pieces.append(piece)
        else:
            todo.extend(spelled(piece)[::-1])
    return pieces


def spelled(way):
    """The text of a way, a list of strings and of the ways in it."""
    kind = kind_of(way)
    if kind == LETTER:
        return [way.letter]
    if kind == ONE:
        return ["."]
    if kind == NOTHING:
        return ["()"]
    if kind == CALL:
        return ["<", way.name, ">"]
    if kind == ROW:
        return joined(way, " ")
    if kind == CHOICE:
        return joined(way, " / ")
    inner = bracketed(way.part, kind)
    if kind == AHEAD:
        return ["&", *inner]
    if kind == UNLESS:
        return ["!", *inner]
    return [*inner, "*" if kind == AGAIN else "?"]


def joined(way, between):
    """The ways of a Row or Choice with this string between them."""
    pieces = []
    for part in way.ways:
        if pieces:
            pieces.append(between)
        pieces.extend(bracketed(part, kind_of(way)))
    return pieces


def bracketed(part, around):
    """A way, with brackets if it needs them in a way of this kind."""
    kind = kind_of(part)
    if kind == ROW:
        needed = around != CHOICE
    elif kind in (AHEAD, UNLESS):
        needed = around in (AGAIN, MAYBE)
    else:
        needed = kind == CHOICE
    return ["(", part, ")"] if needed else [part]


def way_of_steps(steps):
    """The way that these steps [scanning] tell."""
    done = []
    for kind, word, many in steps:
        first = len(done) - many
        inner = done[first:]
        del done[first:]
        done.append(built(kind, word, inner))
    return done[0]


def built(kind, word, inner):
    """A way of this kind, with this letter or name, made of these ways."""
    if kind == LETTER:
        return Letter(word)
    if kind == ONE:
        return One()
    if kind == NOTHING:
        return Nothing()
    if kind == ROW:
        return Row(inner)
    if kind == CHOICE:
        return Choice(inner)
    if kind == AGAIN:
        return Again(inner[0])
    if kind == MAYBE:
        return Maybe(inner[0])
    if kind == AHEAD:
        return Ahead(inner[0])
    if kind == UNLESS:
        return Unless(inner[0])
    return Call(word)
