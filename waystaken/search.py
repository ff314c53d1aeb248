"""The first text that shows something, and how many do."""

from waystaken.backward import HITS


def first_text(signs, begun, grown):
    """The first text that shows it, in the order of texts over signs, or None.

    Texts grow at their start. Of each one no more is known than its nodes,
    which are keys of a dict. begun are the pairs (whether it shows it, node)
    of the empty text; grown(letter, node) tells those of the letter and,
    behind it, a text with this node.
    """
    seen = {}
    layer = []
    for shown, node in begun:
        if shown:
            return ""
        if node not in seen:
            seen[node] = True
            layer.append((node, ""))
    while layer:
        longer = []
        # Letters first, then the texts behind them in their order: so each
        # node is met by the first one of its texts, and these come in order.
        for letter in signs:
            for node, text in list(layer):
                for shown, other in grown(letter, node):
                    if shown:
                        return letter + text
                    if other not in seen:
                        seen[other] = True
                        longer.append((other, letter + text))
        layer = longer
    return None


def all_told(signs, begun, grown):
    """All that is told of texts, each thing once.

    begun and grown are as in first_text, but with pairs (what is told, node).
    """
    told = {}
    seen = {}
    todo = list(begun)
    while todo:
        what, node = todo.pop()
        told[what] = True
        if node not in seen:
            seen[node] = True
            for letter in signs:
                todo.extend(grown(letter, node))
    return list(told)


def first_plain(signs, backward, at_end, elsewhere, wanted):
    """The first text for which wanted(results) holds at place 0, or None.

    at_end and elsewhere are the ranks of a whole way that ends at the end of
    the text, and at other places.
    """
    def turned(letter, state, worth):
        results, ranks = backward.turned(letter, state, worth)
        return [(wanted(results), ranks)]

    return first_text(signs, turned("", (), at_end), lambda letter, state: turned(letter, state, elsewhere))


def marked_turns(backward, letter, node, worths):
    """What may be told of a place, if some place of a text is marked: pairs of results and nodes.

    worths are the ranks of whole ways that end behind the marked place, there,
    and ahead of it; the first two are not the same. The node is that of the
    next place: the state, and whether the mark is there or behind it.
    """
    behind, there, ahead = worths
    state, marked = node
    pairs = []
    for worth in ([ahead] if marked else [behind, there]):
        results, ranks = backward.turned(letter, state, worth)
        past = marked or worth == there
        # From the mark on a state that leads nobody to a HITS is of no use.
        if not past or HITS in results or HITS in ranks:
            pairs.append((results, (ranks, past)))
    return pairs


def first_marked(signs, backward, worths, wanted):
    """The first text that has a place for which wanted(results) holds, or None.

    worths are as in marked_turns; wanted holds only if there is a HITS among
    the results.
    """
    def turned(letter, node):
        return [(wanted(results), further) for results, further in marked_turns(backward, letter, node, worths)]

    return first_text(signs, turned("", ((), False)), turned)


def all_marked(signs, backward, worths):
    """All results of texts with a marked place; worths are as in marked_turns."""
    def turned(letter, node):
        return marked_turns(backward, letter, node, worths)

    return all_told(signs, turned("", ((), False)), turned)


def count_results(signs, backward, length, at_end, elsewhere):
    """How many texts of this length there are for each result of the first way.

    A list with the numbers for the results HITS, FITS and MISSES.
    """
    turns = {}
    counts = {backward.turned("", (), at_end): 1}
    for _ in range(length):
        longer = {}
        for (_, state), many in list(counts.items()):
            if state not in turns:
                turns[state] = [backward.turned(letter, state, elsewhere) for letter in signs]
            for node in turns[state]:
                longer[node] = longer.get(node, 0) + many
        counts = longer
    totals = [0, 0, 0]
    for (results, _), many in counts.items():
        totals[results[0]] += many
    return totals
