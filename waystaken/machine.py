"""All nodes that texts come to, and what tells them apart.

Texts grow at their start: a letter ahead of a text leads from its node to
another one.
"""


class Machine:
    """All nodes that texts over these letters come to, each with its first text.

    begun are pairs of a text and its node; grown(letter, node) tells the node
    of the letter and, behind it, a text with this node. For each node moves
    tells the numbers of those that the letters lead to.
    """

    def __init__(self, letters, begun, grown):
        self.letters = letters
        self.nodes = []
        self.texts = []
        self.numbers = {}
        self.moves = []
        for text, node in begun:
            self.number_of(node, text)
        while len(self.moves) < len(self.nodes):
            text = self.texts[len(self.moves)]
            node = self.nodes[len(self.moves)]
            self.moves.append([self.number_of(grown(letter, node), letter + text) for letter in letters])

    def number_of(self, node, text):
        """The number of the node of a text."""
        if node not in self.numbers:
            self.numbers[node] = len(self.nodes)
            self.nodes.append(node)
            self.texts.append(text)
        return self.numbers[node]


class Groups:
    """The nodes of a machine, grouped by what letters ahead of them may tell.

    worths has something for each node. Two nodes are in one group if, whatever
    letters stand ahead of them, they come to nodes of the same worth. The
    groups have a text, a worth and moves, as the nodes of a machine do; group
    tells for each node the number of its group.
    """

    def __init__(self, machine, worths):
        self.letters = machine.letters
        self.group = grouped(worths, machine.moves)
        firsts = {}
        for node, group in enumerate(self.group):
            firsts.setdefault(group, node)
        self.texts = [machine.texts[node] for node in firsts.values()]
        self.worths = [worths[node] for node in firsts.values()]
        self.moves = [[self.group[other] for other in machine.moves[node]] for node in firsts.values()]

    def pairs(self):
        """All pairs of two different groups."""
        many = len(self.texts)
        return [(one, other) for one in range(many) for other in range(many) if one != other]

    def turns_of(self, pair):
        """The letters that lead from a pair to another one, each with this one."""
        one, other = pair
        return [(letter, (left, right))
                for letter, left, right in zip(self.letters, self.moves[one], self.moves[other]) if left != right]

    def told_apart(self, pair):
        """The fewest letters ahead of a pair that lead to different worths, and the pair there."""
        seen = {pair: True}
        layer = [("", pair)]
        while True:
            longer = []
            for word, (one, other) in list(layer):
                if self.worths[one] != self.worths[other]:
                    return word, (one, other)
                for letter, further in self.turns_of((one, other)):
                    if further not in seen:
                        seen[further] = True
                        longer.append((letter + word, further))
            layer = longer


def grouped(worths, moves):
    """The number of the group of each node, by the worths and moves of the nodes."""
    groups = numbered(worths)
    finer = numbered(refined(groups, moves))
    while max(finer) > max(groups):
        groups = finer
        finer = numbered(refined(groups, moves))
    return groups


def refined(groups, moves):
    """For each node its group and those that the letters lead to."""
    return [(group, tuple([groups[other] for other in row])) for group, row in zip(groups, moves)]


def numbered(keys):
    """A number for each of the keys, the same one for equal keys, counted from 0."""
    numbers = {}
    return [numbers.setdefault(key, len(numbers)) for key in keys]


class Runs:
    """The runs of letters that stand ahead of both texts of a pair of groups.

    A run goes on from pair to pair as long as the letters lead to different
    groups. many is the number of pairs of a longest run, if there is one, and
    last its last pair; rest are the pairs in rings and behind them.
    """

    def __init__(self, groups):
        self.turns = {pair: groups.turns_of(pair) for pair in groups.pairs()}
        self.many = 0
        self.last = None
        self.before = {}
        self.rest = self.peel()

    def peel(self):
        """Take away pairs to which no others lead, then those to which only these led, and so on."""
        arrivals = {pair: 0 for pair in self.turns}
        for turns in self.turns.values():
            for _, further in turns:
                arrivals[further] += 1
        layer = [pair for pair in self.turns if arrivals[pair] == 0]
        while layer:
            self.many += 1
            self.last = layer[0]
            behind = []
            for pair in list(layer):
                for letter, further in self.turns[pair]:
                    arrivals[further] -= 1
                    if arrivals[further] == 0:
                        self.before[further] = (letter, pair)
                        behind.append(further)
            layer = behind
        return [pair for pair in self.turns if arrivals[pair] > 0]

    def longest(self):
        """The first pair of a longest run, and the letters of the run."""
        pair = self.last
        word = ""
        while pair in self.before:
            letter, pair = self.before[pair]
            word = word + letter
        return pair, word

    def shortest_ring(self):
        """A pair, and the fewest letters ahead of it that lead back to it; None if there are none."""
        best = None
        most = len(self.rest)
        for pair in self.rest:
            word = self.way_back(pair, most)
            if word != "":
                best = (pair, word)
                most = len(word) - 1
        return best

    def way_back(self, start, most):
        """The fewest letters, at most so many, that lead from a pair back to it, or ""."""
        seen = {}
        layer = [("", start)]
        for _ in range(most):
            longer = []
            for word, pair in list(layer):
                for letter, further in self.turns[pair]:
                    if further == start:
                        return letter + word
                    if further not in seen:
                        seen[further] = True
                        longer.append((letter + word, further))
            layer = longer
        return ""
