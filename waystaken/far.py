"""Texts that are told by blocks, as long as they may be.

A *leap* over a stretch of text tells where one gets from its start: a list
with an entry for the slot of each leaf, behind which one goes on there, and a
last one for the way itself, which begins there. An entry is None if it comes
to nothing; otherwise a pair: a number of letters, and the number of the entry
by which one goes on behind them, or THERE if the way has ended.
"""

from waystaken.backward import ENDS, FAILS, MISSES, Backward

THERE = -1


def far_end(way, blocks):
    """How many letters the way takes of the text of these blocks, or None."""
    backward = Backward([way])
    steps = backward.steps_at("", ())
    state = backward.state_at(steps, (), MISSES)
    leap = leap_at(backward, steps)
    for word, times in list(blocks)[::-1]:
        leaps, state = block_leaps(backward, word, times, state)
        for earlier in leaps:
            leap = joined_leaps(earlier, leap)
    return None if leap[-1] is None else leap[-1][0]


def leap_at(backward, steps):
    """The leap over the letter, if any, that stands at the place with these steps."""
    behind = [backward.go_on(leaf, steps)[1] for leaf in backward.leaves]
    leap = []
    for step in [*behind, steps[0]]:
        if step == FAILS:
            leap.append(None)
        elif step == ENDS:
            leap.append((0, THERE))
        else:
            leap.append((1, step))
    return leap


def empty_leap(backward):
    """The leap over no letters."""
    return [(0, number) for number in range(len(backward.leaves) + 1)]


def joined_leaps(first, second):
    """The leap over two stretches, one behind the other."""
    leap = []
    for entry in first:
        if entry is None or entry[1] == THERE:
            leap.append(entry)
        else:
            rest = second[entry[1]]
            leap.append(None if rest is None else (entry[0] + rest[0], rest[1]))
    return leap


def word_leap(backward, word, state):
    """The leap over a word, and the state at its start; state is that behind it."""
    leap = empty_leap(backward)
    for letter in word[::-1]:
        steps = backward.steps_at(letter, state)
        leap = joined_leaps(leap_at(backward, steps), leap)
        state = backward.state_at(steps, state, MISSES)
    return leap, state


def block_leaps(backward, word, times, state):
    """The leaps over a word, so many times, and the state at its start.

    The last leap comes first. Sooner or later states come again, and with
    them the leaps over the word; from then on whole rounds are one leap.
    """
    numbers = {}
    states = []
    leaps = []
    while len(leaps) < times and state not in numbers:
        numbers[state] = len(leaps)
        states.append(state)
        leap, state = word_leap(backward, word, state)
        leaps.append(leap)
    left = times - len(leaps)
    if left > 0:
        first = numbers[state]
        ring = leaps[first:]
        more = left % len(ring)
        rounds = repeated_leap(backward, ring_leap(backward, ring), left // len(ring))
        leaps = [*leaps, rounds, *ring[:more]]
        state = states[first + more]
    return leaps, state


def ring_leap(backward, ring):
    """The leap over one round of these leaps, of which the last one comes first."""
    result = empty_leap(backward)
    for leap in ring:
        result = joined_leaps(leap, result)
    return result


def repeated_leap(backward, leap, times):
    """The leap over a stretch that stands there so many times."""
    result = empty_leap(backward)
    while times > 0:
        if times & 1:
            result = joined_leaps(leap, result)
        leap = joined_leaps(leap, leap)
        times = times >> 1
    return result
