"""[12]: texts of ways."""

import itertools
import random
import unittest

from tests.oracle import is_text, random_way
from waystaken.errors import BadText
from waystaken.ways import (
    Again, Ahead, Call, Choice, Letter, Maybe, Nothing, One, Row, Unless, Way)

A = Letter("a")
B = Letter("b")
ROW = Row([A, B])
CHOICE = Choice([A, B])

TEXTS = [
    (A, "a"), (One(), "."), (Nothing(), "()"), (Call("word"), "<word>"), (Call("abcdefghijkl"), "<abcdefghijkl>"),
    (ROW, "a b"), (CHOICE, "a / b"), (Again(A), "a*"), (Maybe(A), "a?"), (Ahead(A), "&a"), (Unless(A), "!a"),
    (Again(ROW), "(a b)*"), (Maybe(ROW), "(a b)?"), (Ahead(ROW), "&(a b)"), (Unless(ROW), "!(a b)"),
    (Again(CHOICE), "(a / b)*"), (Maybe(CHOICE), "(a / b)?"), (Ahead(CHOICE), "&(a / b)"),
    (Unless(CHOICE), "!(a / b)"),
    (Again(Again(A)), "a**"), (Again(Maybe(A)), "a?*"), (Maybe(Again(A)), "a*?"), (Maybe(Maybe(A)), "a??"),
    (Again(Ahead(A)), "(&a)*"), (Maybe(Ahead(A)), "(&a)?"), (Again(Unless(A)), "(!a)*"), (Maybe(Unless(A)), "(!a)?"),
    (Ahead(Again(A)), "&a*"), (Unless(Again(A)), "!a*"), (Ahead(Maybe(A)), "&a?"), (Unless(Maybe(A)), "!a?"),
    (Ahead(Ahead(A)), "&&a"), (Ahead(Unless(A)), "&!a"), (Unless(Ahead(A)), "!&a"), (Unless(Unless(A)), "!!a"),
    (Row([ROW, A]), "(a b) a"), (Row([A, ROW]), "a (a b)"), (Row([CHOICE, A]), "(a / b) a"),
    (Row([A, CHOICE]), "a (a / b)"), (Choice([ROW, A]), "a b / a"), (Choice([A, ROW]), "a / a b"),
    (Choice([CHOICE, A]), "(a / b) / a"), (Choice([A, CHOICE]), "a / (a / b)"),
    (Row([Again(A), Maybe(A), Ahead(A), Unless(A)]), "a* a? &a !a"),
    (Choice([Again(A), Maybe(A), Ahead(A), Unless(A)]), "a* / a? / &a / !a"),
    (Again(Nothing()), "()*"), (Unless(One()), "!."), (Again(Call("x")), "<x>*"),
    (Choice([Row([ROW, A]), B]), "(a b) a / b"), (Again(Row([CHOICE, Unless(Again(A))])), "((a / b) !a*)*"),
]

READ = [
    ("(a/b)!(c)*", Row([CHOICE, Unless(Again(Letter("c")))])),
    ("ab", ROW), ("  a  b  ", ROW), ("a/b", CHOICE), (" a / b ", CHOICE), ("( )", Nothing()), ("(  )*", Again(Nothing())),
    ("< a >", Call("a")), ("<a >", Call("a")), ("<  abc>", Call("abc")), ("( a )", A), ("((a))", A), ("(())", Nothing()),
    ("a *", Again(A)), ("a * ?", Maybe(Again(A))), ("! a", Unless(A)), ("& ! a *", Ahead(Unless(Again(A)))),
    ("!a*?", Unless(Maybe(Again(A)))), ("(!a)*", Again(Unless(A))), ("!(a)*", Unless(Again(A))),
    ("!(a*)", Unless(Again(A))), ("(!(a*))?", Maybe(Unless(Again(A)))),
    ("ab*", Row([A, Again(B)])), ("(ab)*", Again(ROW)), ("!ab", Row([Unless(A), B])), ("!(ab)", Unless(ROW)),
    ("(ab)a", Row([ROW, A])), ("a(ba)", Row([A, Row([B, A])])), ("((ab))", ROW), ("(a/b)/a", Choice([CHOICE, A])),
    ("a/(a/b)", Choice([A, CHOICE])), ("((a/b))", CHOICE), ("(a b)/(a)", Choice([ROW, A])),
    ("a b/a/b a", Choice([ROW, A, Row([B, A])])), ("<a><b>", Row([Call("a"), Call("b")])),
    ("a<b>.", Row([A, Call("b"), One()])), ("()()", Row([Nothing(), Nothing()])), ("..", Row([One(), One()])),
    ("&a!b", Row([Ahead(A), Unless(B)])), ("a*b?", Row([Again(A), Maybe(B)])), ("(a)b", ROW), ("(a)(b)", ROW),
]

WRONG = [
    ("", 0), ("   ", 3), ("/", 0), ("a/", 2), ("a / ", 4), ("/a", 0), ("a//a", 2), ("a / / a", 4),
    (")", 0), ("a)", 1), ("(a))", 3), ("(a", 2), ("((a)", 4), ("(", 1), ("( ", 2), ("(*)", 1), ("(/a)", 1), ("(a/)", 3),
    ("*", 0), ("?a", 0), ("a /*", 3), ("&", 1), ("! ", 2), ("!)", 1), ("(!)", 2), ("&*", 1), ("!/", 1), ("& &", 3),
    ("A", 0), ("a A", 2), ("a1", 1), ("a,b", 1), ("a+", 1), ("a|b", 1), ("a=b", 1), ("[a]", 0), ("a_", 1), ("a-b", 1),
    ("\u00e9", 0), ("a\u00e9", 1), ("a\u0301", 1), ("\uff41", 0), ("a\u00a0b", 1),
    ("\n", 0), ("a\n", 1), ("a\nb", 1), ("a \n b", 2), ("\ta", 0), ("a\tb", 1), ("a\r", 1), ("(\n)", 1), ("<a\n>", 2),
    ("<", 1), ("<>", 1), ("< >", 2), ("<a", 2), ("<a ", 3), ("<a b>", 3), ("<a.>", 2), ("<.>", 1), ("<A>", 1), ("<a<", 2),
    ("<aB>", 2), ("<(a)>", 1), ("<abcdefghijklm>", 13), ("< abcdefghijklm", 14), ("<abcdefghijkl", 13),
    ("<abcdefghijkl m>", 14), ("a>", 1), (">", 0), ("a b c / (d e) * ) f", 16), ("a ! b / c & ) d", 12),
]


def plain_text(way):
    """The text of a way, as [12] tells it."""
    def inside(part, around):
        needed = (isinstance(part, Choice) or isinstance(part, Row) and not isinstance(around, Choice)
                  or isinstance(part, (Ahead, Unless)) and isinstance(around, (Again, Maybe)))
        return "(" + plain_text(part) + ")" if needed else plain_text(part)
    if isinstance(way, (Row, Choice)):
        between = " " if isinstance(way, Row) else " / "
        return between.join(inside(part, way) for part in way.ways)
    if isinstance(way, (Again, Maybe)):
        return inside(way.part, way) + ("*" if isinstance(way, Again) else "?")
    if isinstance(way, (Ahead, Unless)):
        return ("&" if isinstance(way, Ahead) else "!") + inside(way.part, way)
    if isinstance(way, Letter):
        return way.letter
    if isinstance(way, Call):
        return "<" + way.name + ">"
    return "." if isinstance(way, One) else "()"


def spread_text(rng, way):
    """A text of a way with spaces, or none, and more brackets here and there."""
    def spaces():
        return " " * rng.choice([0, 0, 1, 2])

    def inside(part):
        text = spread_text(rng, part)
        needed = isinstance(part, (Row, Choice)) or isinstance(part, (Ahead, Unless)) and isinstance(way, (Again, Maybe))
        if isinstance(part, Row) and isinstance(way, Choice):
            needed = False
        for _ in range(rng.choice([0, 0, 0, 1, 2]) + needed):
            text = "(" + spaces() + text + spaces() + ")"
        return text
    if isinstance(way, Row):
        return "".join(spaces() + inside(part) + spaces() for part in way.ways)
    if isinstance(way, Choice):
        return "/".join(spaces() + inside(part) + spaces() for part in way.ways)
    if isinstance(way, (Again, Maybe)):
        return inside(way.part) + spaces() + ("*" if isinstance(way, Again) else "?")
    if isinstance(way, (Ahead, Unless)):
        return ("&" if isinstance(way, Ahead) else "!") + spaces() + inside(way.part)
    return plain_text(way)


class TextsTest(unittest.TestCase):
    def assert_wrong(self, text, place):
        with self.assertRaises(BadText, msg=repr(text)) as caught:
            Way.read(text)
        self.assertEqual((caught.exception.line, caught.exception.place), (1, place), repr(text))

    def test_texts(self):
        for way, text in TEXTS:
            self.assertEqual(str(way), text)
            self.assertTrue(Way.read(text) == way, text)

    def test_brackets_of_all_pairs(self):
        small = [A, One(), Nothing(), Call("x"), ROW, CHOICE, Again(A), Maybe(A), Ahead(A), Unless(A)]
        for part in small:
            for way in [Row([part, B]), Choice([B, part]), Again(part), Maybe(part), Ahead(part), Unless(part)]:
                self.assertEqual(str(way), plain_text(way))
                self.assertTrue(Way.read(str(way)) == way, str(way))

    def test_more_spaces_and_brackets(self):
        for text, way in READ:
            self.assertTrue(Way.read(text) == way, text)
        self.assertTrue(Way.read(text="a b") == ROW)

    def test_many_ways(self):
        rng = random.Random(12)
        for _ in range(400):
            way = random_way(rng, rng.randint(1, 64), "abz")
            self.assertEqual(str(way), plain_text(way))
            self.assertTrue(Way.read(str(way)) == way, str(way))
            self.assertTrue(Way.read(spread_text(rng, way)) == way, str(way))

    def test_wrong_texts(self):
        for text, place in WRONG:
            self.assert_wrong(text, place)

    def test_every_character(self):
        starts = set("abcdefghijklmnopqrstuvwxyz.(<&! ")
        for code in [*range(0, 0x250), 0x3b1, 0x2009, 0x3000, 0xff0a, 0x1f600]:
            if chr(code) not in starts:
                self.assert_wrong(chr(code), 0)
                self.assert_wrong(" " + chr(code) + "a", 1)
            if chr(code) not in starts | set("*?/"):
                self.assert_wrong("a " + chr(code) + "b", 2)

    def test_all_short_texts(self):
        # A text goes on if one of these, at the latest, makes it a right one.
        endings = [ending + ")" * many for ending in ("", "a", ">", "a>") for many in range(5)]
        goes_on = {"": True}
        for length in range(1, 5):
            for signs in itertools.product("a.()<> !*/", repeat=length):
                text = "".join(signs)
                before = goes_on[text[:-1]]
                goes_on[text] = before and any(is_text(text + ending) for ending in endings)
                if not goes_on[text]:
                    place = min(end for end in range(length) if not goes_on[text[:end + 1]])
                    self.assert_wrong(text, place)
                elif is_text(text):
                    self.assertIsInstance(Way.read(text), Way)
                else:
                    self.assert_wrong(text, length)

    def test_names(self):
        self.assertTrue(Way.read("<abcdefghijkl>") == Call("abcdefghijkl"))
        self.assertTrue(Way.read(" < abcdefghijkl > ") == Call("abcdefghijkl"))
        self.assert_wrong("<abcdefghijklm>", 13)

    def test_long_texts(self):
        way = Way.read("a" * 1000)
        self.assertTrue(way == Row([A] * 1000))
        self.assertEqual(len(way), 1001)
        way = Way.read("a" + "/a" * 499)
        self.assertEqual((len(way), len(way.ways)), (501, 500))
        self.assert_wrong("a" * 999 + ")", 999)
        self.assert_wrong("a" + " " * 998 + "/", 1000)

    def test_deep_texts(self):
        text = "(" * 20 + "a" + ")" * 20
        self.assertTrue(Way.read(text) == A)
        self.assert_wrong(text[:-1], 40)
        self.assert_wrong(text + ")", 41)
        nested = "a"
        for _ in range(20):
            nested = "(" + nested + " b)"
        way = Way.read(nested)
        self.assertEqual(len(way), 41)
        self.assertEqual("(" + str(way) + ")", nested)

    def test_deepest_texts(self):
        text = "a"
        for _ in range(20):
            text = "!&" * 10 + "(" + text + "b)" + "*?" * 10
        self.assertLess(len(text), 1000)
        way = Way.read(text)
        self.assertEqual(len(way), 41 + 20 * 40)
        self.assertTrue(way == Way.read(text))
        self.assertTrue(Way.read(str(way)) == way)
        self.assertEqual(str(way).replace(" ", ""), text)
        self.assertTrue(way.at((0,) * 40 + (1,)) == B)
        self.assertTrue(way.at((0,) * 820) == A)
        self.assertIsNone(way.at((0,) * 821))
        self.assertFalse(way == Way.read(text.replace("a", "c")))

    def test_many_signs_one_behind_another(self):
        way = Way.read("&!" * 10 + "a")
        for index in range(20):
            self.assertIsInstance(way, Unless if index % 2 else Ahead)
            way = way.part
        self.assertTrue(way == A)
        self.assertEqual(str(Way.read("a" + "*?" * 10)), "a" + "*?" * 10)
        self.assertEqual(str(Way.read("&!" * 10 + "a" + "*?" * 10)), "&!" * 10 + "a" + "*?" * 10)


if __name__ == "__main__":
    unittest.main()
