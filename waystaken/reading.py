"""How many letters a way takes of a text."""

from waystaken.far import far_end
from waystaken.parts import MOST_PARTS, refuse_calls, refuse_parts
from waystaken.tables import all_ends, places_of
from waystaken.ways import NOWHERE


def takes(way, text, place=0):
    """How many letters the way takes at the place, None if it does not fit."""
    refuse_calls([way])
    end = way.end_at(text, place, None)
    return None if end == NOWHERE else end - place


def far_takes(way, blocks):
    """How many letters the way takes of the text of these blocks, or None."""
    refuse_calls([way])
    refuse_parts([way], MOST_PARTS)
    return far_end(way, blocks)


def ends(way, text, place=0):
    """All numbers of letters that the way could take if one might go back."""
    refuse_calls([way])
    return [end - place for end in places_of(all_ends(way, text, {})[place])]
