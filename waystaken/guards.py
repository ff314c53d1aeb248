"""Guards: what is to hold of the rules of a book."""

from waystaken.alltexts import apart, fails
from waystaken.choices import is_taken
from waystaken.errors import NotKept
from waystaken.parts import MOST_PARTS, refuse_parts
from waystaken.seeing import Look, look
from waystaken.ways import Choice


def refuse_guard(signs, guard, book):
    """Raise NotKept if the guard does not hold of the book, TooMany if it is about too many parts."""
    ways = guarded_ways(guard, book)
    if ways is None or not is_kept(signs, guard, ways):
        raise NotKept(guard)


def refuse_change(signs, guards, book, other):
    """Raise what is due, if the first book, of which all guards hold, becomes the other one."""
    for guard in guards:
        # What holds of some ways still holds if they stay as they are.
        if guarded_ways(guard, other) != guarded_ways(guard, book):
            refuse_guard(signs, guard, other)


def guarded_ways(guard, book):
    """The ways that a guard is about, None if a name is not in the book."""
    names = guard[1:3] if guard[0] == "alike" else guard[1:2]
    if not all([name in book for name in names]):
        return None
    return [book.way(name) for name in names]


def is_kept(signs, guard, ways):
    """Whether a guard holds of the ways that it is about."""
    kind = guard[0]
    if kind == "fits":
        return fails(signs, ways[0]) is None
    if kind == "alike":
        return apart(signs, ways[0], ways[1]) is None
    if kind == "taken":
        return is_taken_there(signs, ways[0], guard[2], guard[3])
    paper = look(signs, ways[0])
    return isinstance(paper, Look) and paper.need <= guard[2]


def is_taken_there(signs, way, path, index):
    """Whether there is such a way of a Choice, and it is taken for some text."""
    refuse_parts([way], MOST_PARTS)
    choice = way.at(path)
    if not isinstance(choice, Choice) or index >= len(choice.ways):
        return False
    return is_taken(signs, way, path, index)
