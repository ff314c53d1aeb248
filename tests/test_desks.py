"""[90], [91]: desks, their guards, and going back and forth."""

import random
import unittest

from waystaken.alltexts import apart, fails
from waystaken.books import Book
from waystaken.choices import taken_ways
from waystaken.desks import Desk
from waystaken.errors import BadName, Busy, NothingLeft, NotKept, TooMany
from waystaken.seeing import Look, look
from waystaken.ways import Call, Choice, Letter, Row, Way

read = Way.read
A = Letter("a")
EMPTY = Book([])


def row(parts):
    """A Row with so many parts, which takes letters a."""
    return Row([A for _ in range(parts - 1)])


def stand_of(desk):
    """All that a desk shows."""
    return (desk.signs, desk.book, desk.guards, desk.undoable, desk.redoable)


def plain_verdict(signs, book, guard):
    """"kept", "broken" or "parts" [90], by the functions of Parts 4 to 6."""
    names = {"fits": guard[1:2], "alike": guard[1:3], "taken": guard[1:2], "look": guard[1:2]}[guard[0]]
    if any(name not in book for name in names):
        return "broken"
    try:
        ways = [book.way(name) for name in names]
        if guard[0] == "fits":
            kept = fails(signs, ways[0]) is None
        elif guard[0] == "alike":
            kept = apart(signs, *ways) is None
        elif guard[0] == "taken":
            told = {(path, index): text for path, index, text in taken_ways(signs, ways[0])}
            kept = told.get(guard[2:4]) is not None
        else:
            paper = look(signs, ways[0])
            kept = isinstance(paper, Look) and paper.need <= guard[2]
    except TooMany:
        return "parts"
    return "kept" if kept else "broken"


class PlainDesk:
    """A desk, written down plainly: a list of books, a place in it, and guards."""

    def __init__(self, signs, book):
        self.signs = signs
        self.books = [book]
        self.place = 0
        self.guards = []

    @property
    def book(self):
        return self.books[self.place]

    def error_of(self, book):
        """The error with which a step to this book ends, None if it is made."""
        for guard in self.guards:
            verdict = plain_verdict(self.signs, book, guard)
            if verdict != "kept":
                return ("NotKept", guard) if verdict == "broken" else ("TooMany", "parts")
        return None

    def change(self, rules):
        try:
            book = Book(rules)
        except BadName as error:
            return ("BadName", error.name)
        error = self.error_of(book)
        if error is None:
            self.books = [*self.books[:self.place + 1], book]
            self.place += 1
        return error

    def put(self, name, way):
        rules = list(self.book)
        if name in self.book:
            rules = [(told, way if told == name else old) for told, old in rules]
        else:
            rules.append((name, way))
        return self.change(rules)

    def drop(self, name):
        if name not in self.book:
            return ("BadName", name)
        return self.change([rule for rule in self.book if rule[0] != name])

    def step(self, by):
        if not 0 <= self.place + by < len(self.books):
            return ("NothingLeft", None)
        error = self.error_of(self.books[self.place + by])
        if error is None:
            self.place += by
        return error

    def keep(self, guard):
        verdict = plain_verdict(self.signs, self.book, guard)
        if verdict == "kept":
            self.guards.append(guard)
            return None
        return ("NotKept", guard) if verdict == "broken" else ("TooMany", "parts")

    def free(self, guard):
        if guard not in self.guards:
            return ("NothingLeft", None)
        self.guards.remove(guard)
        return None

    def stand(self):
        return (self.signs, self.book, tuple(self.guards), self.place, len(self.books) - 1 - self.place)


class DeskTestCase(unittest.TestCase):
    def assert_raised(self, desk, error, field, call):
        """The call raises this error and changes nothing."""
        before = stand_of(desk)
        with self.assertRaises(error) as caught:
            call()
        self.assertIs(caught.exception.__class__, error)
        if error is NotKept:
            self.assertEqual(caught.exception.guard, field)
        elif error is BadName:
            self.assertEqual(caught.exception.name, field)
        elif error is TooMany:
            self.assertEqual(caught.exception.what, field)
        self.assertEqual(stand_of(desk), before)


class ChangesTest(DeskTestCase):
    def test_new_desk(self):
        book = Book.read("x = a")
        desk = Desk("ab", book)
        self.assertEqual(stand_of(desk), ("ab", book, (), 0, 0))
        self.assertIs(desk.guards.__class__, tuple)
        desk = Desk(book=book, signs="cab")
        self.assertEqual((desk.signs, desk.book), ("cab", book))

    def test_put(self):
        desk = Desk("ab", EMPTY)
        self.assertIsNone(desk.put("x", A))
        self.assertIsNone(desk.put(name="y", way=Call("x")))
        self.assertEqual(desk.book, Book.read("x = a\ny = <x>"))
        self.assertEqual((desk.undoable, desk.redoable), (2, 0))
        desk.put("x", read("b"))
        self.assertEqual(desk.book, Book.read("x = b\ny = <x>"))
        desk.put(way=read("<x> a"), name="z")
        self.assertEqual(str(desk.book), "x = b\ny = <x>\nz = <x> a")
        self.assertEqual(desk.undoable, 4)

    def test_put_an_equal_way(self):
        desk = Desk("ab", Book.read("x = a"))
        self.assertIsNone(desk.put("x", A))
        self.assertEqual((str(desk.book), desk.undoable), ("x = a", 1))

    def test_put_what_makes_no_book(self):
        desk = Desk("ab", Book.read("x = a\ny = <x>"))
        self.assert_raised(desk, BadName, "y", lambda: desk.put("x", Call("y")))
        self.assert_raised(desk, BadName, "x", lambda: desk.put("x", Call("x")))
        self.assert_raised(desk, BadName, "z", lambda: desk.put("z", read("<x> <z>")))
        self.assert_raised(desk, BadName, "w", lambda: desk.put("z", read("<w> <q>")))

    def test_drop(self):
        desk = Desk("ab", Book.read("x = a\ny = <x>\nz = b"))
        self.assertIsNone(desk.drop("z"))
        self.assertIsNone(desk.drop(name="y"))
        self.assertEqual((str(desk.book), desk.undoable), ("x = a", 2))
        desk.drop("x")
        self.assertEqual(desk.book, EMPTY)
        self.assert_raised(desk, BadName, "x", lambda: desk.drop("x"))

    def test_drop_what_is_called(self):
        desk = Desk("ab", Book.read("x = a\ny = a\nz = <y> <x>"))
        self.assert_raised(desk, BadName, "x", lambda: desk.drop("x"))
        self.assert_raised(desk, BadName, "y", lambda: desk.drop("y"))
        self.assert_raised(desk, BadName, "w", lambda: desk.drop("w"))

    def test_two_desks_about_one_book(self):
        book = Book.read("x = a")
        one, other = Desk("ab", book), Desk("ab", book)
        one.put("y", A)
        one.keep(("look", "x", 0))
        self.assertEqual(stand_of(other), ("ab", book, (), 0, 0))
        other.drop("x")
        self.assertEqual((str(one.book), str(other.book), str(book)), ("x = a\ny = a", "", "x = a"))

    def test_what_was_told_stays(self):
        desk = Desk("ab", Book.read("x = a"))
        book, guards = desk.book, desk.guards
        desk.put("x", read("b"))
        desk.keep(("look", "x", 0))
        self.assertEqual((str(book), guards), ("x = a", ()))

    def test_attributes_are_not_set(self):
        desk = Desk("ab", EMPTY)
        for name in ("signs", "book", "guards", "undoable", "redoable"):
            self.assertIsInstance(Desk.__dict__[name], property)
            with self.assertRaises(AttributeError):
                setattr(desk, name, None)


class GuardsTest(DeskTestCase):
    def assert_guard(self, way, guard, kept, signs="ab"):
        """Whether a guard about a rule x with this way is kept."""
        desk = Desk(signs, Book([("x", read(way)), ("y", read("a / b"))]))
        self.assertEqual(plain_verdict(signs, desk.book, guard), "kept" if kept else "broken")
        if kept:
            self.assertIsNone(desk.keep(guard))
            self.assertEqual(desk.guards, (guard,))
        else:
            self.assert_raised(desk, NotKept, guard, lambda: desk.keep(guard))
        desk = Desk(signs, Book([("y", read("a / b"))]))
        desk.put("x", read(way))
        self.assertEqual(desk.undoable, 1)

    def test_fits(self):
        for way, kept in [("a*", True), ("()", True), ("a", False), ("a / !a", True), ("!(a b)", False), (".?", True)]:
            self.assert_guard(way, ("fits", "x"), kept)

    def test_alike(self):
        for way, kept in [("a / b", True), ("b / a", True), (".", True), ("a", False), ("a b / a / b", False)]:
            self.assert_guard(way, ("alike", "x", "y"), kept)
            self.assert_guard(way, ("alike", "y", "x"), kept)
        self.assert_guard("a", ("alike", "x", "x"), True)
        self.assert_guard(".", ("alike", "x", "y"), False, "abc")

    def test_taken(self):
        for path, index, kept in [((), 0, True), ((), 1, True), ((), 2, False), ((1,), 0, True), ((1,), 1, False),
                                  ((0,), 0, False), ((0, 0), 0, False), ((1,), 2, False), ((1,), 10 ** 20, False),
                                  ((2,), 0, False), ((10 ** 20,), 0, False), ((1, 0), 0, False), ((1, 1, 0), 0, False)]:
            self.assert_guard("a / (b / b b)", ("taken", "x", path, index), kept)
        self.assert_guard("a", ("taken", "x", (), 0), False)
        self.assert_guard("a b", ("taken", "x", (), 0), False)
        self.assert_guard("!(c / b)", ("taken", "x", (0,), 0), False)
        self.assert_guard("!(c / b)", ("taken", "x", (0,), 1), True)
        self.assert_guard("!(c / b)", ("taken", "x", (0,), 0), True, "cb")

    def test_look(self):
        for way, need, kept in [("a", 0, True), ("a*", 0, False), ("a*", 1, True), ("a*", 5, True), ("!(a b)", 1, False),
                                ("!(a b)", 2, True), ("a* b / a", 10 ** 30, False), ("a b", 0, True), ("()", 0, True)]:
            self.assert_guard(way, ("look", "x", need), kept)

    def test_calls_are_replaced(self):
        desk = Desk("ab", Book.read("x = a / b\ny = <x>*\nz = (a / b)*"))
        desk.keep(("fits", "y"))
        desk.keep(("alike", "z", "y"))
        desk.keep(("taken", "y", (0,), 1))
        desk.keep(("look", "y", 1))
        self.assert_raised(desk, NotKept, ("alike", "z", "y"), lambda: desk.put("x", A))
        desk.put("x", read("a / b / b"))
        self.assert_raised(desk, NotKept, ("alike", "z", "y"), lambda: desk.put("x", A))

    def test_names_that_are_not_in_the_book(self):
        desk = Desk("ab", Book([("x", A), ("y", A), ("big", row(65))]))
        for guard in (("fits", "z"), ("alike", "x", "z"), ("alike", "z", "x"), ("alike", "z", "w"), ("taken", "z", (), 0),
                      ("look", "z", 9), ("alike", "big", "z"), ("alike", "z", "big")):
            self.assert_raised(desk, NotKept, guard, lambda: desk.keep(guard))
        desk.keep(("alike", "x", "y"))
        self.assert_raised(desk, NotKept, ("alike", "x", "y"), lambda: desk.drop("y"))
        self.assert_raised(desk, NotKept, ("alike", "x", "y"), lambda: desk.drop("x"))

    def test_too_many_parts(self):
        desk = Desk("a", Book([("three", row(3)), ("seven", row(7)), ("eight", row(8)), ("ten", row(10)), ("more", row(11)),
                               ("far", row(65)), ("calls", Row([Call("more")] * 40))]))
        for guard in (("fits", "more"), ("alike", "three", "eight"), ("alike", "eight", "three"), ("alike", "seven", "seven"),
                      ("taken", "more", (), 0), ("look", "eight", 0), ("fits", "far"), ("alike", "three", "far"),
                      ("alike", "calls", "three"), ("taken", "calls", (), 0), ("look", "calls", 0),
                      # ahead of paths and indexes where no way is
                      ("taken", "more", (5, 5), 0), ("taken", "far", (), 7)):
            self.assert_raised(desk, TooMany, "parts", lambda: desk.keep(guard))
        for guard in (("fits", "ten"), ("alike", "three", "seven"), ("taken", "ten", (), 0)):
            self.assert_raised(desk, NotKept, guard, lambda: desk.keep(guard))
        self.assertIsNone(desk.keep(("look", "seven", 0)))
        self.assertIsNone(desk.keep(("alike", "three", "three")))

    def test_the_first_guard_in_order(self):
        desk = Desk("ab", Book.read("x = a*\ny = a*"))
        guards = [("look", "x", 1), ("fits", "x"), ("alike", "x", "y")]
        for guard in guards:
            desk.keep(guard)
        self.assertEqual(desk.guards, tuple(guards))
        self.assert_raised(desk, NotKept, ("fits", "x"), lambda: desk.put("x", A))
        self.assert_raised(desk, NotKept, ("look", "x", 1), lambda: desk.put("x", read("!(a b)")))
        self.assert_raised(desk, NotKept, ("alike", "x", "y"), lambda: desk.put("x", read("b*")))
        self.assert_raised(desk, NotKept, ("look", "x", 1), lambda: desk.drop("x"))
        # Eight parts are too many for the first guard alone.
        self.assert_raised(desk, TooMany, "parts", lambda: desk.put("x", row(8)))
        desk.free(("look", "x", 1))
        self.assert_raised(desk, NotKept, ("fits", "x"), lambda: desk.put("x", row(8)))
        self.assert_raised(desk, TooMany, "parts", lambda: desk.put("x", row(11)))

    def test_broken_or_too_many_whichever_comes_first(self):
        fits, seen = ("fits", "x"), ("look", "y", 1)
        for guards, error, field in [([fits, seen], NotKept, fits), ([seen, fits], TooMany, "parts")]:
            desk = Desk("ab", Book.read("x = a*\ny = <x>"))
            for guard in guards:
                desk.keep(guard)
            # Eight parts are too many for look alone.
            self.assert_raised(desk, error, field, lambda: desk.put("x", row(8)))
            desk.free(fits)
            desk.free(seen)
            desk.put("x", row(8))
            desk.put("x", read("a*"))
            for guard in guards:
                desk.keep(guard)
            self.assert_raised(desk, error, field, desk.undo)
            desk.free(fits)
            desk.free(seen)
            desk.undo()
            desk.undo()
            for guard in guards:
                desk.keep(guard)
            self.assert_raised(desk, error, field, desk.redo)

    def test_errors_of_the_new_book_ahead_of_guards(self):
        desk = Desk("ab", Book.read("x = a*\ny = <x>"))
        desk.keep(("fits", "x"))
        self.assert_raised(desk, BadName, "q", lambda: desk.put("x", read("a <q>")))
        self.assert_raised(desk, BadName, "x", lambda: desk.drop("x"))

    def test_guards_about_a_rule_that_is_put_again(self):
        desk = Desk("ab", Book.read("x = a*"))
        desk.keep(("fits", "x"))
        self.assertIsNone(desk.put("x", read("a*")))
        self.assertIsNone(desk.put("x", read("b*")))
        self.assertIsNone(desk.put("z", A))
        self.assertEqual((str(desk.book), desk.undoable), ("x = b*\nz = a", 3))

    def test_free(self):
        desk = Desk("ab", Book.read("x = a*"))
        for guard in (("fits", "x"), ("look", "x", 1), ("fits", "x"), ("look", "x", 2)):
            desk.keep(guard)
        self.assertIsNone(desk.free(("fits", "x")))
        self.assertEqual(desk.guards, (("look", "x", 1), ("fits", "x"), ("look", "x", 2)))
        self.assertIsNone(desk.free(guard=("look", "x", 2)))
        self.assertEqual(desk.guards, (("look", "x", 1), ("fits", "x")))
        for guard in (("look", "x", 2), ("fits", "y"), ("look", "x", 0), ("alike", "x", "x")):
            self.assert_raised(desk, NothingLeft, None, lambda: desk.free(guard))
        desk.free(("fits", "x"))
        self.assert_raised(desk, NothingLeft, None, lambda: desk.free(("fits", "x")))
        desk.put("x", A)
        self.assertEqual((desk.undoable, desk.guards), (1, (("look", "x", 1),)))

    def test_keep_and_free_are_no_changes(self):
        desk = Desk("ab", Book.read("x = a*"))
        desk.put("y", A)
        desk.put("z", A)
        desk.undo()
        self.assertIsNone(desk.keep(guard=("fits", "x")))
        desk.free(("fits", "x"))
        self.assertEqual((desk.undoable, desk.redoable), (1, 1))
        desk.redo()
        self.assertIn("z", desk.book)


class UndoTest(DeskTestCase):
    def test_back_and_forth(self):
        desk = Desk("ab", EMPTY)
        books = [EMPTY]
        for name in "xyz":
            desk.put(name, A)
            books.append(desk.book)
        desk.drop("x")
        books.append(desk.book)
        for place in (3, 2, 1, 0):
            self.assertIsNone(desk.undo())
            self.assertEqual((desk.book, desk.undoable, desk.redoable), (books[place], place, 4 - place))
        self.assert_raised(desk, NothingLeft, None, desk.undo)
        for place in (1, 2, 3, 4):
            self.assertIsNone(desk.redo())
            self.assertEqual((desk.book, desk.undoable, desk.redoable), (books[place], place, 4 - place))
        self.assert_raised(desk, NothingLeft, None, desk.redo)

    def test_a_change_takes_away_what_could_be_redone(self):
        desk = Desk("ab", EMPTY)
        desk.put("x", A)
        desk.put("y", A)
        desk.undo()
        desk.undo()
        desk.put("z", A)
        self.assertEqual((desk.undoable, desk.redoable), (1, 0))
        self.assert_raised(desk, NothingLeft, None, desk.redo)
        desk.undo()
        self.assertEqual(desk.book, EMPTY)
        desk.redo()
        self.assertEqual(str(desk.book), "z = a")

    def test_what_fails_takes_nothing_away(self):
        desk = Desk("ab", EMPTY)
        desk.put("x", read("a*"))
        desk.put("y", A)
        desk.undo()
        desk.keep(("fits", "x"))
        self.assert_raised(desk, NotKept, ("fits", "x"), lambda: desk.put("x", A))
        self.assert_raised(desk, BadName, "q", lambda: desk.put("x", Call("q")))
        self.assert_raised(desk, BadName, "q", lambda: desk.drop("q"))
        self.assertEqual(desk.redoable, 1)
        desk.redo()

    def test_guards_that_the_book_to_come_breaks(self):
        desk = Desk("ab", Book([("x", A)]))
        desk.put("x", read("a*"))
        desk.keep(("fits", "x"))
        self.assert_raised(desk, NotKept, ("fits", "x"), desk.undo)
        desk.free(("fits", "x"))
        desk.undo()
        desk.keep(("look", "x", 0))
        desk.keep(("alike", "x", "x"))
        self.assert_raised(desk, NotKept, ("look", "x", 0), desk.redo)
        desk.free(("look", "x", 0))
        desk.redo()
        self.assertEqual(str(desk.book), "x = a*")
        desk.keep(("alike", "x", "x"))
        desk.put("y", A)
        desk.keep(("fits", "x"))
        desk.keep(("look", "y", 0))
        self.assert_raised(desk, NotKept, ("look", "y", 0), desk.undo)

    def test_too_many_parts_in_the_book_to_come(self):
        desk = Desk("a", Book([("x", row(11))]))
        desk.put("x", A)
        desk.keep(("look", "x", 0))
        self.assert_raised(desk, TooMany, "parts", desk.undo)
        desk.free(("look", "x", 0))
        desk.undo()
        self.assertEqual(desk.redoable, 1)
        self.assert_raised(desk, TooMany, "parts", lambda: desk.keep(("fits", "x")))

    def test_nothing_left_ahead_of_guards(self):
        desk = Desk("ab", Book.read("x = a*"))
        desk.keep(("fits", "x"))
        self.assert_raised(desk, NothingLeft, None, desk.undo)
        self.assert_raised(desk, NothingLeft, None, desk.redo)


class TrialTest(DeskTestCase):
    def desk(self):
        """A desk with changes to undo and redo, and a guard."""
        desk = Desk("ab", EMPTY)
        for name in "xyz":
            desk.put(name, read("a*"))
        desk.undo()
        desk.keep(("fits", "x"))
        return desk

    def change_much(self, desk):
        desk.put("x", read("b*"))
        desk.put("w", Choice([A, A]))
        desk.drop("y")
        desk.keep(("taken", "w", (), 0))
        desk.free(("fits", "x"))

    def test_all_is_taken_back(self):
        desk = self.desk()
        before = stand_of(desk)
        with desk.trial():
            self.assertEqual(stand_of(desk), before)
            self.change_much(desk)
            self.assertEqual(str(desk.book), "x = b*\nw = a / a")
            self.assertEqual((desk.undoable, desk.redoable), (5, 0))
            self.assertEqual(desk.guards, (("taken", "w", (), 0),))
        self.assertEqual(stand_of(desk), before)
        desk.redo()
        self.assertEqual(str(desk.book), "x = a*\ny = a*\nz = a*")
        desk.undo()
        desk.undo()
        self.assertEqual(str(desk.book), "x = a*")

    def test_errors_go_on(self):
        desk = self.desk()
        before = stand_of(desk)
        with self.assertRaises(KeyError) as caught:
            with desk.trial():
                self.change_much(desk)
                raise KeyError("told")
        self.assertEqual(caught.exception.args, ("told",))
        self.assertEqual(stand_of(desk), before)
        with self.assertRaises(NotKept):
            with desk.trial():
                desk.put("q", A)
                desk.put("x", A)
        self.assertEqual(stand_of(desk), before)
        desk.undo()
        self.assertEqual(desk.undoable, 1)

    def test_guards_count_in_a_trial(self):
        desk = self.desk()
        with desk.trial():
            self.assert_raised(desk, NotKept, ("fits", "x"), lambda: desk.put("x", A))
            self.assert_raised(desk, NothingLeft, None, lambda: desk.free(("fits", "y")))

    def test_busy(self):
        desk = self.desk()
        with desk.trial():
            self.assert_raised(desk, Busy, None, desk.undo)
            self.assert_raised(desk, Busy, None, desk.redo)
            self.change_much(desk)
            self.assert_raised(desk, Busy, None, desk.undo)
            self.assert_raised(desk, Busy, None, desk.redo)
        desk.undo()
        desk.redo()

    def test_busy_first_of_all(self):
        desk = Desk("ab", Book([("x", A)]))
        with desk.trial():
            self.assert_raised(desk, Busy, None, desk.undo)
            self.assert_raised(desk, Busy, None, desk.redo)
        desk.put("x", read("a*"))
        desk.keep(("fits", "x"))
        with desk.trial():
            self.assert_raised(desk, Busy, None, desk.undo)
        self.assert_raised(desk, NotKept, ("fits", "x"), desk.undo)

    def test_trials_within_one_another(self):
        desk = self.desk()
        before = stand_of(desk)
        with desk.trial():
            desk.put("u", A)
            within = stand_of(desk)
            with desk.trial():
                self.change_much(desk)
                with desk.trial():
                    desk.put("v", A)
            self.assertEqual(stand_of(desk), within)
            self.assert_raised(desk, Busy, None, desk.undo)
            with self.assertRaises(ZeroDivisionError):
                with desk.trial():
                    desk.drop("u")
                    raise ZeroDivisionError()
            self.assertEqual(stand_of(desk), within)
            self.assert_raised(desk, Busy, None, desk.redo)
            desk.put("t", A)
            self.assertEqual(desk.undoable, 4)
        self.assertEqual(stand_of(desk), before)
        desk.redo()

    def test_a_trial_begins_with_its_block(self):
        desk = self.desk()
        trial = desk.trial()
        desk.undo()
        desk.put("q", A)
        before = stand_of(desk)
        with trial:
            desk.drop("q")
        self.assertEqual(stand_of(desk), before)

    def test_two_desks(self):
        one, other = self.desk(), self.desk()
        with one.trial():
            other.undo()
            other.put("q", A)
        self.assertEqual(str(other.book), "x = a*\nq = a")

    def test_tried(self):
        desk = self.desk()
        before = stand_of(desk)
        given = []

        def action(told):
            given.append(told)
            self.change_much(told)
            self.assertRaises(Busy, told.undo)
            return [str(told.book)]

        self.assertEqual(desk.tried(action), ["x = b*\nw = a / a"])
        self.assertIs(given[0], desk)
        self.assertEqual(stand_of(desk), before)
        self.assertIsNone(desk.tried(action=lambda told: told.put("q", A)))
        self.assertEqual(desk.tried(lambda told: told.tried(lambda again: again.put("q", A) or again.undoable)), 3)
        self.assertEqual(stand_of(desk), before)
        desk.undo()

    def test_tried_and_an_error(self):
        desk = self.desk()

        def action(told):
            told.put("q", A)
            told.undo()

        self.assert_raised(desk, Busy, None, lambda: desk.tried(action))
        self.assert_raised(desk, NotKept, ("fits", "x"), lambda: desk.tried(lambda told: told.put("x", A)))
        self.assert_raised(desk, KeyError, None, lambda: desk.tried(lambda told: {}[told]))
        desk.undo()


class RandomTest(DeskTestCase):
    WAYS = [read(text) for text in ("a", "b", "a*", "a / b", "b / a", "(a / b)*", ".*", "!(a b)", "()", "a a a a a", "a b / a",
                                    "<x>", "<x> / a", "<y>*", "<x> <y>", "a a a a a a a a a a a", "<x> <x> <x>", "a* b / a")]
    GUARDS = [("fits", "x"), ("fits", "y"), ("alike", "x", "y"), ("alike", "y", "z"), ("taken", "x", (), 1),
              ("taken", "y", (0,), 0), ("taken", "z", (), 0), ("look", "x", 1), ("look", "y", 0), ("look", "z", 1),
              ("alike", "x", "x")]

    def told(self, call):
        """What a call does: None, or the name and field of its error."""
        try:
            self.assertIsNone(call())
        except (BadName, NotKept, NothingLeft, TooMany) as error:
            return (error.__class__.__name__, next(iter(vars(error).values()), None))
        return None

    def step(self, rng, desk, plain):
        name, way, guard = rng.choice("xyz"), rng.choice(self.WAYS), rng.choice(self.GUARDS)
        told, expected = rng.choice([
            (lambda: desk.put(name, way), lambda: plain.put(name, way)),
            (lambda: desk.put(name, way), lambda: plain.put(name, way)),
            (lambda: desk.drop(name), lambda: plain.drop(name)),
            (lambda: desk.keep(guard), lambda: plain.keep(guard)),
            (lambda: desk.free(guard), lambda: plain.free(guard)),
            (lambda: desk.undo(), lambda: plain.step(-1)),
            (lambda: desk.redo(), lambda: plain.step(1))])
        told, expected = self.told(told), expected()
        self.assertEqual(told, expected)
        self.assertEqual(stand_of(desk), plain.stand())
        return None if told is None else told[0]

    def test_many_steps_against_a_plain_desk(self):
        rng = random.Random(90)
        met = []
        for _ in range(100):
            desk, plain = Desk("ab", EMPTY), PlainDesk("ab", EMPTY)
            for _ in range(60):
                met.append(self.step(rng, desk, plain))
        for told in (None, "BadName", "NotKept", "NothingLeft", "TooMany"):
            self.assertGreater(met.count(told), 50, told)


if __name__ == "__main__":
    unittest.main()
