"""What DOC.md says, written out plainly and slowly, to test against."""

import itertools
import re

from waystaken.ways import (
    Again, Ahead, Choice, Letter, Maybe, Nothing, One, Row, Unless)


def plain_end(way, text, place):
    """Where the way ends that is read from the place on, or None [11]."""
    if isinstance(way, Letter):
        return place + 1 if text[place:place + 1] == way.letter else None
    if isinstance(way, One):
        return place + 1 if place < len(text) else None
    if isinstance(way, Nothing):
        return place
    if isinstance(way, Row):
        for part in way.ways:
            place = plain_end(part, text, place)
            if place is None:
                return None
        return place
    if isinstance(way, Choice):
        for part in way.ways:
            end = plain_end(part, text, place)
            if end is not None:
                return end
        return None
    end = plain_end(way.part, text, place)
    if isinstance(way, Again):
        while end is not None and end > place:
            place = end
            end = plain_end(way.part, text, place)
        return place
    if isinstance(way, Maybe):
        return place if end is None else end
    if isinstance(way, Ahead):
        return None if end is None else place
    assert isinstance(way, Unless)
    return place if end is None else None


def plain_takes(way, text, place=0):
    """How many letters the way takes at the place, or None."""
    end = plain_end(way, text, place)
    return None if end is None else end - place


def plain_ends(way, text, place):
    """The set of all places where the way might end if one might go back [22]."""
    if isinstance(way, Row):
        places = {place}
        for part in way.ways:
            places = set().union(*[plain_ends(part, text, here) for here in places])
        return places
    if isinstance(way, Choice):
        return set().union(*[plain_ends(part, text, place) for part in way.ways])
    if isinstance(way, Again):
        places = set()
        todo = [place]
        while todo:
            here = todo.pop()
            if here not in places:
                places.add(here)
                todo.extend(plain_ends(way.part, text, here))
        return places
    if isinstance(way, Maybe):
        return {place} | plain_ends(way.part, text, place)
    end = plain_end(way, text, place)
    return set() if end is None else {end}


def all_texts(signs, longest):
    """All texts over signs with at most so many letters, in their order [1]."""
    for length in range(longest + 1):
        for letters in itertools.product(signs, repeat=length):
            yield "".join(letters)


def first(signs, longest, shows):
    """The first text with at most so many letters for which this holds, or None."""
    return next((text for text in all_texts(signs, longest) if shows(text)), None)


SINGLE = re.compile(r"<\ *[a-z]{1,12}\ *>|[a-z.]|\(\ *\)")
UNARY = "[&!]*A[*?]*"
CHOICE = f"(?:{UNARY})+(?:/(?:{UNARY})+)*"


def is_text(text):
    """Whether this is a text of a way [12]."""
    if re.search("[A-Z]", text):
        return False
    left = SINGLE.sub("A", text).replace(" ", "")
    shorter = re.sub(rf"\({CHOICE}\)", "A", left)
    while shorter != left:
        left = shorter
        shorter = re.sub(rf"\({CHOICE}\)", "A", left)
    return re.fullmatch(CHOICE, left) is not None


def random_way(rng, parts, letters):
    """A way with just so many parts."""
    if parts == 1:
        return rng.choice([Letter(rng.choice(letters)), Letter(rng.choice(letters)),
                           Letter(rng.choice(letters)), One(), Nothing()])
    if parts == 2 or rng.random() < 0.35:
        return rng.choice([Again, Again, Maybe, Ahead, Unless])(random_way(rng, parts - 1, letters))
    many = rng.randint(2, min(4, parts - 1))
    cuts = [0, *sorted(rng.sample(range(1, parts - 1), many - 1)), parts - 1]
    inner = [random_way(rng, high - low, letters) for low, high in zip(cuts, cuts[1:])]
    return rng.choice([Row, Row, Choice])(inner)
