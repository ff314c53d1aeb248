"""[80], [81]: books, their names, and their texts."""

import random
import unittest

from tests.oracle import random_way
from waystaken.books import Book
from waystaken.errors import BadName, BadText, TooMany
from waystaken.ways import Again, Ahead, Call, Choice, Letter, Maybe, Nothing, One, Row, Unless, Way

read = Way.read
A = Letter("a")
B = Letter("b")


def row(parts):
    """A Row with so many parts."""
    return Row([A for _ in range(parts - 1)])


def plain_replaced(way, ways):
    """The way with all calls replaced by these ways."""
    if isinstance(way, Call):
        return plain_replaced(ways[way.name], ways)
    if isinstance(way, (Row, Choice)):
        return way.__class__([plain_replaced(part, ways) for part in way.ways])
    if isinstance(way, (Again, Maybe, Ahead, Unless)):
        return way.__class__(plain_replaced(way.part, ways))
    return way


def with_calls(rng, way, names):
    """The way with some of its letters replaced by calls of these names."""
    if isinstance(way, (Row, Choice)):
        return way.__class__([with_calls(rng, part, names) for part in way.ways])
    if isinstance(way, (Again, Maybe, Ahead, Unless)):
        return way.__class__(with_calls(rng, way.part, names))
    return Call(rng.choice(names)) if names and rng.random() < 0.3 else way


class BookTest(unittest.TestCase):
    def assert_bad_name(self, name, call):
        with self.assertRaises(BadName) as caught:
            call()
        self.assertEqual(caught.exception.name, name)

    def test_rules(self):
        rules = [("x", A), ("y", Call("x"))]
        book = Book(rules)
        self.assertEqual(book.rules, (("x", A), ("y", Call("x"))))
        self.assertIs(book.rules.__class__, tuple)
        self.assertTrue(all(rule.__class__ is tuple for rule in book.rules))
        self.assertEqual(Book(rules=tuple(rules)).rules, tuple(rules))
        self.assertEqual(Book([]).rules, ())

    def test_names_that_stand_ahead_already(self):
        self.assert_bad_name("x", lambda: Book([("x", A), ("x", A)]))
        self.assert_bad_name("y", lambda: Book([("x", A), ("y", B), ("z", A), ("y", B), ("x", A)]))

    def test_calls_of_names_that_do_not_stand_ahead(self):
        self.assert_bad_name("y", lambda: Book([("x", Call("y"))]))
        self.assert_bad_name("y", lambda: Book([("x", Call("y")), ("y", A)]))
        self.assert_bad_name("x", lambda: Book([("x", Call("x"))]))
        self.assert_bad_name("x", lambda: Book([("x", Again(Row([A, Call("x")])))]))
        self.assert_bad_name("z", lambda: Book([("x", A), ("y", read("a <x> (<z> / <y>)"))]))
        self.assert_bad_name("y", lambda: Book([("x", A), ("y", read("a <x> (<y> / <z>)"))]))

    def test_several_errors(self):
        # One rule behind the other, in each its name ahead of its calls.
        self.assert_bad_name("x", lambda: Book([("x", A), ("x", Call("z"))]))
        self.assert_bad_name("z", lambda: Book([("x", A), ("y", Call("z")), ("x", A)]))
        self.assert_bad_name("x", lambda: Book([("x", A), ("x", A), ("y", Call("z"))]))
        self.assert_bad_name("q", lambda: Book([("x", read("!(a <q>) <p>")), ("x", A)]))

    def test_index(self):
        way = read("<x> a")
        book = Book([("x", A), ("y", way)])
        self.assertIs(book["y"], way)
        self.assertEqual(book["x"], A)
        for name in ("z", "a", "xy", "yy"):
            self.assert_bad_name(name, lambda: book[name])
            self.assert_bad_name(name, lambda: book.way(name))

    def test_in_and_len_and_iterating(self):
        book = Book([("x", A), ("y", read("<x> a")), ("longestname", B)])
        self.assertIs("x" in book, True)
        self.assertIs("longestname" in book, True)
        self.assertIs("z" in book, False)
        self.assertIs("z" not in book, True)
        self.assertEqual((len(book), len(Book([]))), (3, 0))
        self.assertEqual(list(book), [("x", A), ("y", read("<x> a")), ("longestname", B)])
        self.assertEqual([name for name, _ in book], ["x", "y", "longestname"])
        self.assertEqual(list(Book(())), [])
        self.assertEqual([rule for rule in book], [rule for rule in book])

    def test_equal(self):
        book = Book([("x", A), ("y", Call("x"))])
        self.assertTrue(book == Book([("x", Letter("a")), ("y", Call("x"))]))
        self.assertFalse(book != Book([("x", Letter("a")), ("y", Call("x"))]))
        for other in (Book([]), Book([("x", A)]), Book([("x", B), ("y", Call("x"))]), Book([("x", A), ("z", Call("x"))]),
                      Book([("x", A), ("y", A)]), Book([("x", A), ("y", Call("x")), ("z", A)])):
            self.assertFalse(book == other)
            self.assertTrue(book != other)
        self.assertNotEqual(Book([("x", A), ("y", B)]), Book([("y", B), ("x", A)]))
        self.assertEqual(Book([]), Book(()))
        for thing in (None, 1, "x = a", (), [], book.rules, list(book), A):
            self.assertFalse(book == thing)
            self.assertTrue(Book([]) != thing)

    def test_lists_that_are_changed_behind(self):
        rules = [("x", A)]
        book = Book(rules)
        rules.append(("y", B))
        rules[0] = ("z", B)
        self.assertEqual(book.rules, (("x", A),))
        self.assertEqual((len(book), "y" in book, str(book)), (1, False, "x = a"))
        self.assertEqual(rules, [("z", B), ("y", B)])

    def test_way(self):
        book = Book.read("x = a / b\ny = <x> <x>*\nz = !<y> / <x>?\nw = .\nv = <w>")
        self.assertEqual(book.way("x"), read("a / b"))
        self.assertEqual(book.way("y"), read("(a / b) (a / b)*"))
        self.assertEqual(book.way(name="z"), read("!((a / b) (a / b)*) / (a / b)?"))
        self.assertEqual(book.way("v"), One())
        # Rows in Rows and Choices in Choices stay such.
        book = Book([("x", Row([A, B])), ("y", Row([Call("x"), A])), ("z", Choice([Call("y"), B])), ("w", Choice([Call("z"), A]))])
        self.assertEqual(book.way("w"), Choice([Choice([Row([Row([A, B]), A]), B]), A]))

    def test_way_against_plain_replacing(self):
        rng = random.Random(80)
        for _ in range(150):
            rules = []
            for name in "pqrst"[:rng.randint(1, 5)]:
                names = [told for told, _ in rules]
                rules.append((name, with_calls(rng, random_way(rng, rng.randint(1, 7), "ab"), names)))
            book = Book(rules)
            for name, _ in rules:
                plain = plain_replaced(dict(rules)[name], dict(rules))
                if len(plain) <= 64:
                    self.assertEqual(book.way(name), plain)
                else:
                    self.assertRaises(TooMany, book.way, name)
            self.assertEqual(Book.read(str(book)), book)

    def assert_too_many(self, book, name):
        with self.assertRaises(TooMany) as caught:
            book.way(name)
        self.assertEqual(caught.exception.what, "parts")

    def test_64_parts(self):
        book = Book([("x", row(64)), ("y", Call("x")), ("z", Again(Call("x")))])
        self.assertEqual(len(book.way("x")), 64)
        self.assertEqual(book.way("y"), row(64))
        self.assert_too_many(book, "z")
        book = Book([("x", row(31)), ("y", Row([Call("x"), Call("x"), A])), ("z", Row([Call("x"), Call("x"), A, A])),
                     ("w", Row([Call("y"), A]))])
        self.assertEqual(len(book.way("y")), 64)
        self.assert_too_many(book, "z")
        self.assert_too_many(book, "w")
        self.assert_too_many(Book([("x", row(65))]), "x")

    def test_ways_far_too_big_to_be_made(self):
        rules = [("a", A)]
        for name, before in zip("bcdefghijklmnopqrstuvwxyz", "abcdefghijklmnopqrstuvwxyz"):
            rules.append((name, Row([Call(before)] * 60)))
        book = Book(rules)
        self.assertEqual(len(book.way("b")), 61)
        for name in "cdz":
            self.assert_too_many(book, name)

    def test_forty_rules_in_a_row(self):
        names = [one + other for one in "abcd" for other in "abcdefghij"]
        rules = [(names[0], A)] + [(name, Call(before)) for before, name in zip(names, names[1:])]
        book = Book(rules)
        self.assertEqual(len(book), 40)
        self.assertEqual(book.way("dj"), A)


class TextsTest(unittest.TestCase):
    def assert_bad_text(self, text, line, place):
        with self.assertRaises(BadText) as caught:
            Book.read(text)
        self.assertEqual((caught.exception.line, caught.exception.place), (line, place), text)

    def test_str(self):
        self.assertEqual(str(Book([])), "")
        self.assertEqual(str(Book([("x", A)])), "x = a")
        book = Book([("x", Choice([A, B])), ("longestnames", Row([Call("x"), Again(Choice([A, Nothing()]))]))])
        self.assertEqual(str(book), "x = a / b\nlongestnames = <x> (a / ())*")

    def test_read(self):
        self.assertEqual(Book.read(""), Book([]))
        self.assertEqual(Book.read("x = a"), Book([("x", A)]))
        self.assertEqual(Book.read(text="x = a\ny = <x>"), Book([("x", A), ("y", Call("x"))]))
        self.assertIs(Book.read("").__class__, Book)

    def test_more_spaces_or_none(self):
        plain = Book.read("x = a b\ny = <x> / a")
        for text in ("x=ab\ny=<x>/a", "  x  =  a  b  \n y = < x > / a ", "x =a b\ny= <x> / (a)", " x=(a b)\n   y   =<x>   /   a"):
            self.assertEqual(Book.read(text), plain, text)

    def test_wrong_lines(self):
        for text, line, place in [
                (" ", 1, 1), ("   ", 1, 3), ("\n", 1, 0), ("x = a\n", 2, 0), ("x = a\n\ny = b", 2, 0), ("\nx = a", 1, 0),
                ("x = a\n  ", 2, 2), ("x", 1, 1), ("x ", 1, 2), ("x =", 1, 3), ("x = ", 1, 4), ("= a", 1, 0), (" = a", 1, 1),
                ("x a", 1, 2), ("x y = a", 1, 2), ("x == a", 1, 3), ("x = a = b", 1, 6), ("x = a)", 1, 5), ("x = (a", 1, 6),
                ("<x> = a", 1, 0), ("X = a", 1, 0), ("xY = a", 1, 1), ("x1 = a", 1, 1), ("x = A", 1, 4), ("x := a", 1, 2),
                ("abcdefghijklm = a", 1, 12), ("abcdefghijkl = a\nx = *", 2, 4), ("x = a\ny = <x> )", 2, 8),
                ("x = a\ny = b\nz = <", 3, 5), ("x\t= a", 1, 1), ("x = a\r\ny = b", 1, 5), ("x = a\u2028y = b", 1, 5),
                ("x = a\x0by = b", 1, 5), ("x = a\x0cy = b", 1, 5), ("x = a; y = b", 1, 5), ("x = /", 1, 4), ("\u00e9 = a", 1, 0)]:
            self.assert_bad_text(text, line, place)

    def test_the_first_wrong_line(self):
        self.assert_bad_text("x = a\ny = )\nz = (", 2, 4)
        self.assert_bad_text("x\ny", 1, 1)

    def test_bad_names_behind_bad_texts(self):
        self.assert_bad_text("x = <y>\nz = (", 2, 5)
        self.assert_bad_text("x = a\nx = a\n", 3, 0)
        for text, name in [("x = <y>", "y"), ("x = a\nx = b", "x"), ("x = <x>", "x"), ("x = a\ny = <z> <w>\nx = a", "z"),
                           ("x = <y>\ny = a", "y")]:
            with self.assertRaises(BadName) as caught:
                Book.read(text)
            self.assertEqual(caught.exception.name, name)

    def test_names_of_twelve_letters(self):
        book = Book.read("abcdefghijkl = a\nx = <abcdefghijkl>")
        self.assertEqual(book.way("x"), A)

    def test_long_lines(self):
        text = "x = " + "a" * 996 + "\ny = " + "<x>" * 300
        book = Book.read(text)
        self.assertEqual(len(book["x"]), 997)
        self.assertEqual(Book.read(str(book)), book)
        self.assertRaises(TooMany, book.way, "x")


if __name__ == "__main__":
    unittest.main()
