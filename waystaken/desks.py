"""Desks: books that change, as far as guards allow it."""

from waystaken.books import Book
from waystaken.errors import BadName, Busy, NothingLeft
from waystaken.guards import refuse_change, refuse_guard


class Stand:
    """What a desk has at one time.

    The book in use, the guards, and the books to undo and redo to, all of
    them tuples; of these books the last one is the next one.
    """

    def __init__(self, used, kept, undone, redone):
        self.used = used
        self.kept = kept
        self.undone = undone
        self.redone = redone


class Trial:
    """A block at the end of which a desk is again what it was when the block began."""

    def __init__(self, desk):
        self.desk = desk
        self.stand = desk.stand
        self.trials = desk.trials

    def __enter__(self):
        desk = self.desk
        self.stand = desk.stand
        self.trials = desk.trials
        desk.trials += 1
        return self

    def __exit__(self, kind, value, trace):
        desk = self.desk
        desk.stand = self.stand
        desk.trials = self.trials


class Desk:
    """A book that changes, guards, and the books to undo and redo to."""

    def __init__(self, signs, book):
        self.letters = signs
        self.stand = Stand(book, (), (), ())
        self.trials = 0

    @property
    def signs(self):
        return self.letters

    @property
    def book(self):
        return self.stand.used

    @property
    def guards(self):
        return self.stand.kept

    @property
    def undoable(self):
        return len(self.stand.undone)

    @property
    def redoable(self):
        return len(self.stand.redone)

    def put(self, name, way):
        """Exchange the way of the rule with this name, or add it behind the others."""
        if name in self.book:
            rules = [(told, way if told == name else old) for told, old in self.book.rules]
        else:
            rules = [*self.book.rules, (name, way)]
        self.change(Book(rules))

    def drop(self, name):
        """Take a rule out."""
        if name not in self.book:
            raise BadName(name)
        self.change(Book([(told, way) for told, way in self.book.rules if told != name]))

    def change(self, book):
        """Go on with this book, as a change that can be undone."""
        stand = self.stand
        self.turn(Stand(book, stand.kept, (*stand.undone, stand.used), ()))

    def turn(self, stand):
        """Go on with this stand, if its book keeps the guards."""
        refuse_change(self.signs, stand.kept, self.book, stand.used)
        self.stand = stand

    def keep(self, guard):
        """Put a guard behind the others."""
        refuse_guard(self.signs, guard, self.book)
        stand = self.stand
        self.stand = Stand(stand.used, (*stand.kept, guard), stand.undone, stand.redone)

    def free(self, guard):
        """Take the first guard away that is equal to this one."""
        stand = self.stand
        if guard not in stand.kept:
            raise NothingLeft()
        kept = list(stand.kept)
        kept.remove(guard)
        self.stand = Stand(stand.used, tuple(kept), stand.undone, stand.redone)

    def undo(self):
        """Go back by one change."""
        stand = self.stand
        self.refuse_turn(stand.undone)
        self.turn(Stand(stand.undone[-1], stand.kept, stand.undone[:-1], (*stand.redone, stand.used)))

    def redo(self):
        """Go forth again by one change."""
        stand = self.stand
        self.refuse_turn(stand.redone)
        self.turn(Stand(stand.redone[-1], stand.kept, (*stand.undone, stand.used), stand.redone[:-1]))

    def refuse_turn(self, books):
        """Raise Busy in a trial, NothingLeft if there is no book to go to."""
        if self.trials > 0:
            raise Busy()
        if not books:
            raise NothingLeft()

    def trial(self):
        """A block, for with, that leaves nothing behind."""
        return Trial(self)

    def tried(self, action):
        """What action(desk) returns; all that it does is taken back."""
        with self.trial():
            return action(self)
