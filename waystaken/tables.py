"""Where each part of a way ends, for each place of a short text."""

from waystaken.kinds import AGAIN, AHEAD, CHOICE, LETTER, MAYBE, NOTHING, ONE, ROW

NOWHERE = -1


def end_tables(parts, text):
    """For each part and place: where it ends there, NOWHERE if it does not fit."""
    tables = [[] for _ in parts.kinds]
    for part in reversed(range(len(parts.kinds))):
        inner = [tables[number] for number in parts.inner[part]]
        tables[part] = ends_of_part(parts.kinds[part], parts.words[part], inner, text)
    return tables


def ends_of_part(kind, letter, inner, text):
    """The ends of a part, told by those of the parts of which it is made."""
    places = range(len(text) + 1)
    if kind == LETTER:
        return [place + 1 if text[place:place + 1] == letter else NOWHERE for place in places]
    if kind == ONE:
        return [place + 1 if place < len(text) else NOWHERE for place in places]
    if kind == NOTHING:
        return list(places)
    if kind == ROW:
        return [end_of_row(inner, place) for place in places]
    if kind == CHOICE:
        return [end_of_choice(inner, place) for place in places]
    if kind == AGAIN:
        return ends_of_again(inner[0])
    if kind == MAYBE:
        return [max(inner[0][place], place) for place in places]
    fitting = kind == AHEAD
    return [place if (inner[0][place] != NOWHERE) == fitting else NOWHERE for place in places]


def end_of_row(inner, place):
    """Where a Row ends."""
    end = place
    for ends in inner:
        if end != NOWHERE:
            end = ends[end]
    return end


def end_of_choice(inner, place):
    """Where a Choice ends."""
    for ends in inner:
        if ends[place] != NOWHERE:
            return ends[place]
    return NOWHERE


def ends_of_again(ends):
    """Where an Again ends at each place, told by the ends of its part."""
    result = list(range(len(ends)))
    for place in reversed(range(len(ends))):
        if ends[place] > place:
            result[place] = result[ends[place]]
    return result


def all_end_tables(parts, text):
    """For each part and place: where it might end if one might go back.

    Places are told by the bits of a number: bit 5 is place 5.
    """
    tables = end_tables(parts, text)
    spread = [[] for _ in tables]
    for part in reversed(range(len(tables))):
        inner = [spread[number] for number in parts.inner[part]]
        spread[part] = all_ends_of_part(parts.kinds[part], inner, tables[part])
    return spread


def all_ends_of_part(kind, inner, ends):
    """All ends of a part, told by those of the parts of which it is made.

    ends are those that it has if nobody goes back.
    """
    places = range(len(ends))
    if kind == ROW:
        return [all_ends_of_row(inner, place) for place in places]
    if kind == CHOICE:
        return [all_ends_of_choice(inner, place) for place in places]
    if kind == AGAIN:
        return all_ends_of_again(inner[0])
    if kind == MAYBE:
        return [inner[0][place] | (1 << place) for place in places]
    return [0 if end == NOWHERE else 1 << end for end in ends]


def all_ends_of_row(inner, place):
    """All ends of a Row."""
    ends = 1 << place
    for spread in inner:
        ends = gathered(spread, ends)
    return ends


def all_ends_of_choice(inner, place):
    """All ends of a Choice."""
    ends = 0
    for spread in inner:
        ends = ends | spread[place]
    return ends


def all_ends_of_again(spread):
    """All ends of an Again at each place, told by those of its part."""
    result = [1 << place for place in range(len(spread))]
    for place in reversed(range(len(spread))):
        taken = spread[place] & ~(1 << place)
        result[place] = result[place] | gathered(result, taken)
    return result


def gathered(spread, places):
    """All ends behind one of these places."""
    ends = 0
    for place in places_of(places):
        ends = ends | spread[place]
    return ends


def places_of(bits):
    """The places that the bits of a number tell, ascending."""
    places = []
    while bits:
        lowest = bits & -bits
        places.append(lowest.bit_length() - 1)
        bits = bits ^ lowest
    return places
