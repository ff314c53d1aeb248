"""Where ways might end if one might go back, for each place of a short text.

Places are told by the bits of a number: bit 5 is place 5.
"""

from waystaken.kinds import AGAIN, CHOICE, MAYBE, ROW
from waystaken.ways import NOWHERE, kind_of, made_of


def all_ends(way, text, known):
    """For each place of the text: where the way might end there.

    known is what Agains remember of this text [ways].
    """
    kind = kind_of(way)
    places = range(len(text) + 1)
    if kind in (ROW, CHOICE, AGAIN, MAYBE):
        inner = [all_ends(part, text, known) for part in made_of(way)]
        if kind == ROW:
            return [all_ends_of_row(inner, place) for place in places]
        if kind == CHOICE:
            return [all_ends_of_choice(inner, place) for place in places]
        if kind == AGAIN:
            return all_ends_of_again(inner[0])
        return [inner[0][place] | (1 << place) for place in places]
    # The others do what they do if nobody goes back.
    only = [way.end_at(text, place, known) for place in places]
    return [0 if end == NOWHERE else 1 << end for end in only]


def all_ends_of_row(inner, place):
    """All ends of a Row."""
    ends = 1 << place
    for spread in inner:
        ends = gathered(spread, ends)
    return ends


def all_ends_of_choice(inner, place):
    """All ends of a Choice."""
    ends = 0
    for spread in inner:
        ends = ends | spread[place]
    return ends


def all_ends_of_again(spread):
    """All ends of an Again at each place, told by those of its part."""
    result = [1 << place for place in range(len(spread))]
    for place in reversed(range(len(spread))):
        taken = spread[place] & ~(1 << place)
        result[place] = result[place] | gathered(result, taken)
    return result


def gathered(spread, places):
    """All ends behind one of these places."""
    ends = 0
    for place in places_of(places):
        ends = ends | spread[place]
    return ends


def places_of(bits):
    """The places that the bits of a number tell, ascending."""
    places = []
    while bits:
        lowest = bits & -bits
        places.append(lowest.bit_length() - 1)
        bits = bits ^ lowest
    return places
