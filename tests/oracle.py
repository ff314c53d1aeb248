"""What DOC.md says, written out plainly and slowly, to test against."""

import itertools
import re

from waystaken.ways import (
    Again, Ahead, Choice, Letter, Maybe, Nothing, One, Row, Unless)


def plain_end(way, text, place):
    """Where the way ends that is read from the place on, or None [11]."""
    if isinstance(way, Letter):
        return place + 1 if text[place:place + 1] == way.letter else None
    if isinstance(way, One):
        return place + 1 if place < len(text) else None
    if isinstance(way, Nothing):
        return place
    if isinstance(way, Row):
        for part in way.ways:
            place = plain_end(part, text, place)
            if place is None:
                return None
        return place
    if isinstance(way, Choice):
        for part in way.ways:
            end = plain_end(part, text, place)
            if end is not None:
                return end
        return None
    end = plain_end(way.part, text, place)
    if isinstance(way, Again):
        while end is not None and end > place:
            place = end
            end = plain_end(way.part, text, place)
        return place
    if isinstance(way, Maybe):
        return place if end is None else end
    if isinstance(way, Ahead):
        return None if end is None else place
    assert isinstance(way, Unless)
    return place if end is None else None


def plain_takes(way, text, place=0):
    """How many letters the way takes at the place, or None."""
    end = plain_end(way, text, place)
    return None if end is None else end - place


def plain_ends(way, text, place):
    """The set of all places where the way might end if one might go back [22]."""
    if isinstance(way, Row):
        places = {place}
        for part in way.ways:
            places = set().union(*[plain_ends(part, text, here) for here in places])
        return places
    if isinstance(way, Choice):
        return set().union(*[plain_ends(part, text, place) for part in way.ways])
    if isinstance(way, Again):
        places = set()
        todo = [place]
        while todo:
            here = todo.pop()
            if here not in places:
                places.add(here)
                todo.extend(plain_ends(way.part, text, here))
        return places
    if isinstance(way, Maybe):
        return {place} | plain_ends(way.part, text, place)
    end = plain_end(way, text, place)
    return set() if end is None else {end}


def all_texts(signs, longest):
    """All texts over signs with at most so many letters, in their order [1]."""
    for length in range(longest + 1):
        for letters in itertools.product(signs, repeat=length):
            yield "".join(letters)


def first(signs, longest, shows):
    """The first text with at most so many letters for which this holds, or None."""
    return next((text for text in all_texts(signs, longest) if shows(text)), None)


SINGLE = re.compile(r"<\ *[a-z]{1,12}\ *>|[a-z.]|\(\ *\)")
UNARY = "[&!]*A[*?]*"
CHOICE = f"(?:{UNARY})+(?:/(?:{UNARY})+)*"


def is_text(text):
    """Whether this is a text of a way [12]."""
    if re.search("[A-Z]", text):
        return False
    left = SINGLE.sub("A", text).replace(" ", "")
    shorter = re.sub(rf"\({CHOICE}\)", "A", left)
    while shorter != left:
        left = shorter
        shorter = re.sub(rf"\({CHOICE}\)", "A", left)
    return re.fullmatch(CHOICE, left) is not None


def random_way(rng, parts, letters):
    """A way with just so many parts."""
    if parts == 1:
        return rng.choice([Letter(rng.choice(letters)), Letter(rng.choice(letters)),
                           Letter(rng.choice(letters)), One(), Nothing()])
    if parts == 2 or rng.random() < 0.35:
        return rng.choice([Again, Again, Maybe, Ahead, Unless])(random_way(rng, parts - 1, letters))
    many = rng.randint(2, min(4, parts - 1))
    cuts = [0, *sorted(rng.sample(range(1, parts - 1), many - 1)), parts - 1]
    inner = [random_way(rng, high - low, letters) for low, high in zip(cuts, cuts[1:])]
    return rng.choice([Row, Row, Choice])(inner)


def inner_of(way):
    """The ways of which a way is made."""
    if isinstance(way, (Row, Choice)):
        return way.ways
    return (way.part,) if hasattr(way, "part") else ()


def paths_of(way):
    """The pairs of a path and a part, in the order of parts [10]."""
    pairs = [((), way)]
    for index, part in enumerate(inner_of(way)):
        pairs.extend([((index, *path), found) for path, found in paths_of(part)])
    return pairs


def plain_visits(way, text, place=0, path=(), noted=None):
    """Each (path, place, end) that one comes to when the way is read [40]; end is None if it does not fit there."""
    noted = [] if noted is None else noted
    end = place

    def come(index, here):
        plain_visits(inner_of(way)[index], text, here, (*path, index), noted)
        return noted[-1][2]

    if isinstance(way, Row):
        for index in range(len(way.ways)):
            end = None if end is None else come(index, end)
    elif isinstance(way, Choice):
        end = None
        for index in range(len(way.ways)):
            end = come(index, place) if end is None else end
    elif isinstance(way, Again):
        further = come(0, place)
        while further is not None and further > end:
            end = further
            further = come(0, end)
    elif isinstance(way, Maybe):
        further = come(0, place)
        end = place if further is None else further
    elif isinstance(way, (Ahead, Unless)):
        fits = come(0, place) is not None
        end = place if fits == isinstance(way, Ahead) else None
    else:
        end = plain_end(way, text, place)
    noted.append((path, place, end))
    return noted


def plain_taken(way, text):
    """The set of (path of a Choice, index) of the ways that are taken [40]."""
    choices = [path for path, part in paths_of(way) if isinstance(part, Choice)]
    return {(path[:-1], path[-1]) for path, _, end in plain_visits(way, text)
            if end is not None and path[:-1] in choices and path}


def plain_need(signs, longest, results, first_counts):
    """The greatest d + 1 that texts with at most so many letters show [50].

    results tells what counts of a text, None if it shows nothing;
    first_counts(result) tells how many of the first letters count already.
    """
    behind = {}
    for text in all_texts(signs, longest):
        for size in range(len(text) + 1):
            behind.setdefault(text[:size], set()).add(results(text))
    need = 0
    for text in all_texts(signs, longest):
        if results(text) is not None:
            for size in range(first_counts(results(text)), len(text) + 1):
                if behind[text[:size]] != {results(text)}:
                    need = max(need, size - first_counts(results(text)) + 1)
    return need
