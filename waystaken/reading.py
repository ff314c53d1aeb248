"""How many letters a way takes of a text."""

from waystaken.far import far_end
from waystaken.parts import Parts, refuse_calls, refuse_parts
from waystaken.tables import NOWHERE, all_end_tables, end_tables, places_of

MOST_FAR_PARTS = 10


def takes(way, text, place=0):
    """How many letters the way takes at the place, None if it does not fit."""
    refuse_calls([way])
    end = end_tables(Parts([way]), text)[0][place]
    return None if end == NOWHERE else end - place


def far_takes(way, blocks):
    """How many letters the way takes of the text of these blocks, or None."""
    refuse_calls([way])
    refuse_parts([way], MOST_FAR_PARTS)
    return far_end(way, blocks)


def ends(way, text, place=0):
    """All numbers of letters that the way could take if one might go back."""
    refuse_calls([way])
    bits = all_end_tables(Parts([way]), text)[0][place]
    return [end - place for end in places_of(bits)]
