"""What ways do for all texts over some signs, of any length."""

from waystaken.backward import FITS, HITS, MISSES, asked
from waystaken.loose import Loose
from waystaken.parts import MOST_PARTS
from waystaken.search import count_results, first_marked, first_plain, first_text


def apart(signs, one, other):
    """The first text of which the ways do not take the same, None if they are alike."""
    return first_ending(signs, [one, other], lambda told: told[0] != told[1])


def beyond(signs, one, other):
    """The first text of which other does not take what one takes, or None."""
    return first_ending(signs, [one, other], lambda told: told[0] == HITS and told[1] != HITS)


def first_ending(signs, ways, wanted):
    """The first text with a place for which wanted(results) holds: HITS for ways that end there, or MISSES."""
    return first_marked(signs, asked(ways, MOST_PARTS), (MISSES, HITS, MISSES), wanted)


def uncovered(signs, one, other):
    """The first text that other fits and one does not, or None."""
    return first_fitting(signs, [one, other], lambda told: told[0] == MISSES and told[1] == FITS)


def fit_both(signs, one, other):
    """The first text that both ways fit, or None."""
    return first_fitting(signs, [one, other], lambda told: told[0] == FITS and told[1] == FITS)


def fails(signs, way):
    """The first text that the way does not fit, or None."""
    return first_fitting(signs, [way], lambda told: told[0] == MISSES)


def first_fitting(signs, ways, wanted):
    """The first text for which wanted(results) holds: FITS or MISSES for each way."""
    return first_plain(signs, asked(ways, MOST_PARTS), FITS, FITS, wanted)


def whole(signs, way):
    """The first text that the way takes whole, or None."""
    return first_whole(signs, [way], lambda told: told[0] == HITS)


def whole_apart(signs, one, other):
    """The first text that just one of the ways takes whole, or None."""
    return first_whole(signs, [one, other], lambda told: told[0] != told[1])


def first_whole(signs, ways, wanted):
    """The first text for which wanted(results) holds: HITS if it is taken whole, or MISSES."""
    return first_plain(signs, asked(ways, MOST_PARTS), HITS, MISSES, wanted)


def counted(signs, way, n):
    """How many texts of n letters are taken whole, fit only, and do not fit."""
    return tuple(count_results(signs, asked([way], MOST_PARTS), n, HITS, FITS))


def lost(signs, way):
    """The first text that the way does not fit, though it might by going back, or None."""
    return first_lost(signs, way, FITS, FITS)


def lost_whole(signs, way):
    """The first text that is not taken whole, though it might be by going back, or None."""
    return first_lost(signs, way, HITS, MISSES)


def first_lost(signs, way, at_end, elsewhere):
    """The first text that does not come to an end that counts, though it might.

    at_end and elsewhere are the ranks of the way if it ends at the end of the
    text, and at other places; MISSES if such an end does not count.
    """
    backward = asked([way], MOST_PARTS)
    loose = Loose(backward)

    def turned(letter, node, worth):
        state, hope = node
        steps = backward.steps_at(letter, state)
        spreads = loose.spreads_at(steps)
        counts = worth != MISSES
        misses = backward.results_at(steps, state, worth)[0] == MISSES
        shown = misses and loose.result_at(spreads, hope, counts)
        return [(shown, (backward.state_at(steps, state, worth), loose.hope_at(spreads, hope, counts)))]

    return first_text(signs, turned("", ((), 0), at_end), lambda letter, node: turned(letter, node, elsewhere))
