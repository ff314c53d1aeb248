"""How far behind its end a way must see to take what it takes, or to fit."""

from waystaken.backward import FITS, HITS, MISSES, asked
from waystaken.machine import Groups, Machine, Runs
from waystaken.parts import refuse_calls
from waystaken.ways import NOWHERE

MOST_LOOK_PARTS = 7

# How often the ring of an Endless is tried.
MOST_ROUNDS = 3


class Look:
    """So many letters are needed, and two texts that show it; none if no letters are."""

    def __init__(self, need, one, other):
        self.need = need
        self.one = one
        self.other = other


class Endless:
    """Texts that show that no number of letters is enough, with any number of rings in them."""

    def __init__(self, head, ring, one, other):
        self.head = head
        self.ring = ring
        self.one = one
        self.other = other


def look(signs, way):
    """How many letters the way needs behind those that it takes."""
    backward = asked([way], MOST_LOOK_PARTS)

    def turned(letter, state, worth):
        results, ranks = backward.turned(letter, state, worth)
        return results[0] == HITS, ranks

    # Texts behind the place where the way is to end, and these texts from
    # there on, with a letter or none, and with more ahead of it.
    behind = Machine(signs, [("", turned("", (), MISSES)[1])], lambda letter, state: turned(letter, state, MISSES)[1])
    marked = [[turned(letter, state, HITS) for letter in signs] for state in behind.nodes]
    starts = [("", turned("", (), HITS))]
    for text, row in zip(behind.texts, marked):
        starts.extend([(letter + text, node) for letter, node in zip(signs, row)])
    ahead = Machine(signs, starts, lambda letter, node: turned(letter, node[1], MISSES))
    taken = Groups(ahead, [hits for hits, _ in ahead.nodes])
    groups = Groups(behind, [tuple([taken.group[ahead.numbers[node]] for node in nodes]) for nodes in marked])
    if len(groups.texts) == 1:
        return look_at_end(taken, [taken.group[ahead.numbers[node]] for _, node in starts])

    def finish(pair):
        word, (one, other) = groups.told_apart(pair)
        moved = list(zip(signs, groups.worths[one], groups.worths[other]))
        letter, left, right = [entry for entry in moved if entry[1] != entry[2]][0]
        front, (first, _) = taken.told_apart((left, right))
        return front + letter + word, taken.worths[first]

    return paper_of(groups, finish, 1)


def look_at_end(taken, starts):
    """The Look of a way for which no more counts than the first letter behind its end.

    taken are groups of texts, starts those of the texts behind its end.
    """
    unlike = [group for group in starts if group != starts[0]]
    if not unlike:
        return Look(0, None, None)
    front, (first, _) = taken.told_apart((starts[0], unlike[0]))
    one, other = front + taken.texts[starts[0]], front + taken.texts[unlike[0]]
    return Look(1, one, other) if taken.worths[first] else Look(1, other, one)


def settles(signs, way):
    """How many letters are needed to tell whether the way fits."""
    backward = asked([way], MOST_LOOK_PARTS)

    def turned(letter, state):
        results, ranks = backward.turned(letter, state, FITS)
        return results[0] == FITS, ranks

    machine = Machine(signs, [("", turned("", ()))], lambda letter, node: turned(letter, node[1]))
    groups = Groups(machine, [fits for fits, _ in machine.nodes])
    if len(groups.texts) == 1:
        return Look(0, None, None)

    def finish(pair):
        word, (first, _) = groups.told_apart(pair)
        return word, groups.worths[first]

    return paper_of(groups, finish, 0)


def paper_of(groups, finish, more):
    """The Look, or Endless, that the runs of these groups of texts show.

    finish(pair) tells letters ahead of a pair of groups, and whether, behind
    them, the text of the first group does what the text of the other one does
    not; as many letters are needed as the longest run has pairs, and more.
    """
    runs = Runs(groups)
    ring = runs.shortest_ring()
    if ring is None:
        start, word = runs.longest()
        front, is_first = finish(runs.last)
    else:
        start, word = ring
        front, is_first = finish(start)
    one, other = [groups.texts[group] for group in (start if is_first else start[::-1])]
    if ring is None:
        return Look(runs.many + more, front + word + one, front + word + other)
    return Endless(front, word, one, other)


def is_look(way, paper):
    """Whether the texts of a paper show what it says of what the way takes."""
    refuse_calls([way])
    if isinstance(paper, Look):
        taken = taken_of(way, paper.one)
        return taken is not None and taken != taken_of(way, paper.other) and in_common(paper, taken + paper.need - 1)
    pairs = [(taken_of(way, one), taken_of(way, other)) for one, other in endless_texts(paper)]
    taken = pairs[0][0]
    shown = all([one == taken and other != taken for one, other in pairs])
    return paper.ring != "" and taken is not None and taken <= len(paper.head) and shown


def is_settled(way, paper):
    """Whether the texts of a paper show what it says of whether the way fits."""
    refuse_calls([way])
    if isinstance(paper, Look):
        shown = taken_of(way, paper.one) is not None and taken_of(way, paper.other) is None
        return shown and in_common(paper, paper.need - 1)
    pairs = [(taken_of(way, one), taken_of(way, other)) for one, other in endless_texts(paper)]
    return paper.ring != "" and all([one is not None and other is None for one, other in pairs])


def taken_of(way, text):
    """How many letters the way takes of a text, None if it does not fit."""
    end = way.end_at(text, 0, None)
    return None if end == NOWHERE else end


def in_common(paper, many):
    """Whether the texts of a Look have so many letters, and the same ones."""
    return min(len(paper.one), len(paper.other)) >= many and paper.one[:many] == paper.other[:many]


def endless_texts(paper):
    """The pairs of texts of an Endless, with no ring in them, with one, and so on."""
    heads = [paper.head + paper.ring * rounds for rounds in range(MOST_ROUNDS + 1)]
    return [(head + paper.one, head + paper.other) for head in heads]
