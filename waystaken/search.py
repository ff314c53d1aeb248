"""The first text that shows something, and how many do."""

from waystaken.backward import HITS, MISSES


def first_text(signs, begun, grown):
    """The first text that shows it, in the order of texts over signs, or None.

    Texts grow at their start. Of each one no more is known than its nodes,
    which are keys of a dict. begun are the pairs (whether it shows it, node)
    of the empty text; grown(letter, node) tells those of the letter and,
    behind it, a text with this node.
    """
    seen = {}
    layer = []
    for shown, node in begun:
        if shown:
            return ""
        if node not in seen:
            seen[node] = True
            layer.append((node, ""))
    while layer:
        longer = []
        # Letters first, then the texts behind them in their order: so each
        # node is met by the first one of its texts, and these come in order.
        for letter in signs:
            for node, text in layer:
                for shown, other in grown(letter, node):
                    if shown:
                        return letter + text
                    if other not in seen:
                        seen[other] = True
                        longer.append((other, letter + text))
        layer = longer
    return None


def first_plain(signs, backward, at_end, elsewhere, wanted):
    """The first text for which wanted(results) holds at place 0, or None.

    at_end and elsewhere are the ranks of a whole way that ends at the end of
    the text, and at other places.
    """
    def turned(letter, state, worth):
        steps = backward.steps_at(letter, state)
        results = backward.results_at(steps, state, worth)
        return [(wanted(results), backward.state_at(steps, state, worth))]

    return first_text(signs, turned("", (), at_end), lambda letter, state: turned(letter, state, elsewhere))


def first_marked(signs, backward, wanted):
    """The first text that has a place for which wanted(results) holds, or None.

    results are HITS for whole ways that end at this place, MISSES for the
    others; wanted holds only if there is a HITS among them.
    """
    def turned(letter, node):
        state, marked = node
        steps = backward.steps_at(letter, state)
        pairs = []
        for worth in ([MISSES] if marked else [MISSES, HITS]):
            ranks = backward.state_at(steps, state, worth)
            shown = wanted(backward.results_at(steps, state, worth))
            # Behind the mark a state that leads nobody there is of no use.
            if shown or HITS in ranks or not (marked or worth == HITS):
                pairs.append((shown, (ranks, marked or worth == HITS)))
        return pairs

    return first_text(signs, turned("", ((), False)), turned)


def count_results(signs, backward, length, at_end, elsewhere):
    """How many texts of this length there are for each result of the first way.

    A list with the numbers for the results HITS, FITS and MISSES.
    """
    turns = {}

    def turned(letter, state, worth):
        steps = backward.steps_at(letter, state)
        return backward.results_at(steps, state, worth)[0], backward.state_at(steps, state, worth)

    counts = {turned("", (), at_end): 1}
    for _ in range(length):
        longer = {}
        for (_, state), many in counts.items():
            if state not in turns:
                turns[state] = [turned(letter, state, elsewhere) for letter in signs]
            for node in turns[state]:
                longer[node] = longer.get(node, 0) + many
        counts = longer
    totals = [0, 0, 0]
    for (result, _), many in counts.items():
        totals[result] += many
    return totals
