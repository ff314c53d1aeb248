"""Books: rules with names, and ways that call them."""

from waystaken.errors import BadName, TooMany
from waystaken.scanning import Scan
from waystaken.ways import Call, built, kind_of, made_of, parts_of, way_of_steps, word_of

MOST_BOOK_PARTS = 64


class Book:
    """Rules, pairs of a name and a way; a way calls rules that stand ahead of its own."""

    def __init__(self, rules):
        self.rules = tuple([(name, way) for name, way in rules])
        self.table = {}
        # How many parts each way has when its calls are replaced. They may be
        # far too many to be made.
        self.sizes = {}
        for name, way in self.rules:
            self.add_rule(name, way)

    def add_rule(self, name, way):
        """Note a rule, if it may stand behind those noted so far."""
        if name in self.table:
            raise BadName(name)
        size = 0
        for part in parts_of(way):
            if not isinstance(part, Call):
                size += 1
            elif part.name in self.table:
                size += self.sizes[part.name]
            else:
                raise BadName(part.name)
        self.table[name] = way
        self.sizes[name] = size

    @classmethod
    def read(cls, text):
        """The book of which this is a text; BadText if there is none, then BadName as ever."""
        lines = text.split("\n") if text != "" else []
        return cls([read_rule(line, number) for number, line in enumerate(lines, start=1)])

    def way(self, name):
        """The way of a rule with all calls replaced, and the calls in these."""
        told = self[name]
        if self.sizes[name] > MOST_BOOK_PARTS:
            raise TooMany("parts")
        return replaced(told, self.table)

    def __getitem__(self, name):
        if name not in self.table:
            raise BadName(name)
        return self.table[name]

    def __contains__(self, name):
        return name in self.table

    def __len__(self):
        return len(self.rules)

    def __iter__(self):
        return iter(self.rules)

    def __eq__(self, other):
        return isinstance(other, Book) and self.rules == other.rules

    def __str__(self):
        return "\n".join([f"{name} = {way}" for name, way in self.rules])


def read_rule(line, number):
    """The rule of which this line is a text, a pair; number is that of the line."""
    scan = Scan(line, number)
    name = scan.read_name()
    scan.expect("=")
    return name, way_of_steps(scan.read_way())


def replaced(way, table):
    """A way with all calls replaced; table has the ways of the names."""
    if way.called is None:
        return way
    if isinstance(way, Call):
        return replaced(table[way.name], table)
    return built(kind_of(way), word_of(way), [replaced(part, table) for part in made_of(way)])
