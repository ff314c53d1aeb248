"""What becomes of the ways of a Choice, for all texts over some signs."""

from waystaken.backward import FITS, HITS, MISSES, Backward, asked
from waystaken.errors import TooMany
from waystaken.kinds import CHOICE
from waystaken.parts import MOST_PARTS
from waystaken.search import all_marked, first_marked
from waystaken.taking import Taking

MOST_WAYS = 5


def taken_ways(signs, way):
    """For each way of each Choice: its path, its index, and the first text for which it is taken."""
    backward = asked([way], MOST_PARTS)
    parts = backward.parts
    told = []
    # Parts stand one after the other by ascending paths.
    for part, kind in enumerate(parts.kinds):
        if kind == CHOICE:
            path = parts.path_of(part)
            for index, target in enumerate(parts.inner[part]):
                told.append((path, index, Taking(backward, target).first_taken(signs)))
    return told


def is_taken(signs, way, path, index):
    """Whether this way of the Choice with this path is taken for some text."""
    backward = asked([way], MOST_PARTS)
    target = backward.parts.number_at((*path, index))
    return Taking(backward, target).first_taken(signs) is not None


def asked_choice(choice):
    """The ways of a Choice, ready to be read backward, if it may be asked at all."""
    asked([choice], MOST_PARTS)
    if len(choice.ways) > MOST_WAYS:
        raise TooMany("ways")
    return Backward(choice.ways)


def orders(signs, choice):
    """All orders of the ways of a Choice that are alike to it."""
    told = results_of_choice(signs, asked_choice(choice))
    return [order for order in all_orders(len(choice.ways)) if are_alike(order, told)]


def enough(signs, choice):
    """All sets of ways of a Choice that are alike to it."""
    told = results_of_choice(signs, asked_choice(choice))
    return [indexes for indexes in all_sets(len(choice.ways)) if are_alike(indexes, told)]


def results_of_choice(signs, backward):
    """What the ways of a Choice do together for texts that it fits, each tuple once.

    HITS for the ways that end where the Choice ends, FITS for the others that
    fit, and MISSES.
    """
    told = all_marked(signs, backward, (FITS, HITS, FITS))
    return [results for results in told if first_fitting(results) == HITS]


def first_fitting(results):
    """The first of these results that is not MISSES, MISSES if there is none."""
    for result in results:
        if result != MISSES:
            return result
    return MISSES


def are_alike(indexes, told):
    """Whether these ways, one after the other, do what the Choice does."""
    return all([first_fitting([results[index] for index in indexes]) == HITS for results in told])


def all_orders(many):
    """All orders of so many indexes, ascending."""
    rows = [()]
    for _ in range(many):
        rows = [(*row, index) for row in rows for index in range(many) if index not in row]
    return rows


def all_sets(many):
    """All ascending tuples of so many indexes, but the empty one, ascending."""
    rows = [()]
    for index in range(many):
        rows = rows + [(*row, index) for row in rows]
    return sorted(rows)[1:]


def shorter(signs, choice):
    """The first text of which a way takes more than the Choice, or None."""
    # The Choice ends at the marked place or ahead of it, FITS, and some way
    # ends behind it, HITS.
    return first_marked(signs, asked_choice(choice), (HITS, FITS, FITS),
                        lambda told: HITS in told and first_fitting(told) == FITS)
