"""[2], [80], Parts 3 to 5: which ways may be asked, which error comes first, and arguments."""

import unittest

from waystaken import alltexts, choices, reading
from waystaken.errors import BadName, TooMany
from waystaken.ways import Again, Call, Choice, Letter, Row, Way

read = Way.read

ONE_WAY = {
    "takes": lambda way: reading.takes(way, "ab"),
    "ends": lambda way: reading.ends(way, "ab"),
    "far_takes": lambda way: reading.far_takes(way, [("ab", 2)]),
    "whole": lambda way: alltexts.whole("ab", way),
    "fails": lambda way: alltexts.fails("ab", way),
    "counted": lambda way: alltexts.counted("ab", way, 2),
    "lost": lambda way: alltexts.lost("ab", way),
    "lost_whole": lambda way: alltexts.lost_whole("ab", way),
    "taken_ways": lambda way: choices.taken_ways("ab", way),
}
TWO_WAYS = [alltexts.apart, alltexts.beyond, alltexts.uncovered, alltexts.fit_both, alltexts.whole_apart]


def letters(parts):
    """A way with so many parts."""
    if parts < 3:
        return Letter("a") if parts == 1 else Again(Letter("a"))
    return Row([Letter("a") for _ in range(parts - 1)])


class AskedTest(unittest.TestCase):
    def assert_bad_name(self, name, call):
        with self.assertRaises(BadName) as caught:
            call()
        self.assertEqual(caught.exception.name, name)

    def assert_too_many(self, call):
        with self.assertRaises(TooMany) as caught:
            call()
        self.assertEqual(caught.exception.what, "parts")

    def test_calls(self):
        for way, name in [("<x>", "x"), ("a / <y>", "y"), ("<first> <other>", "first"), ("a (b / !<deep>*) <x>", "deep"),
                          ("(a / <p>) <q>", "p"), ("() / <never>", "never"), ("<x> <x>", "x")]:
            for call in ONE_WAY.values():
                self.assert_bad_name(name, lambda: call(read(way)))

    def test_calls_in_two_ways(self):
        for function in TWO_WAYS:
            self.assert_bad_name("x", lambda: function("ab", read("<x>"), read("a")))
            self.assert_bad_name("x", lambda: function("ab", read("a"), read("<x>")))
            self.assert_bad_name("x", lambda: function("ab", read("a a <x>"), read("<y>")))
            self.assert_bad_name("y", lambda: function("ab", read("<y> a"), read("<x>")))
            self.assert_bad_name("z", lambda: function("ab", one=read("a"), other=read("a / !<z>")))

    def test_calls_ahead_of_too_many_parts(self):
        many = Row([letters(20), Call("x"), Call("y")])
        for call in ONE_WAY.values():
            self.assert_bad_name("x", lambda: call(many))
        for function in TWO_WAYS:
            self.assert_bad_name("x", lambda: function("ab", letters(30), many))
            self.assert_bad_name("x", lambda: function("ab", many, letters(30)))
            self.assert_bad_name("x", lambda: function("ab", letters(11), Call("x")))

    def test_ten_parts(self):
        for name, call in ONE_WAY.items():
            call(letters(10))
            if name in ("takes", "ends"):
                call(letters(11))
                call(letters(64))
            else:
                self.assert_too_many(lambda: call(letters(11)))
                self.assert_too_many(lambda: call(Choice([letters(20), letters(20)])))

    def test_ten_parts_in_two_ways(self):
        for function in TWO_WAYS:
            for parts in range(1, 10):
                function("ab", letters(parts), letters(10 - parts))
            for parts in range(1, 11):
                self.assert_too_many(lambda: function("ab", letters(parts), letters(11 - parts)))

    def test_twice_the_same_way(self):
        for function in TWO_WAYS:
            way = letters(5)
            self.assertEqual(function("ab", way, way), "aaaa" if function is alltexts.fit_both else None)
            way = letters(6)
            self.assert_too_many(lambda: function("ab", way, way))

    def test_too_many_parts_for_no_blocks(self):
        self.assert_too_many(lambda: reading.far_takes(letters(11), []))

    def test_nothing_is_changed(self):
        blocks = [["ab", 3], ["b", 0]]
        way = read("(a b)*")
        reading.far_takes(way, blocks)
        self.assertEqual(blocks, [["ab", 3], ["b", 0]])
        for call in ONE_WAY.values():
            self.assertEqual(call(way), call(way))
        self.assertEqual(str(way), "(a b)*")

    def test_arguments_by_name(self):
        one, other = read("a"), read("a / b")
        for function in TWO_WAYS:
            self.assertEqual(function(signs="ab", one=one, other=other), function("ab", one, other))
            self.assertEqual(function("ab", other=one, one=other), function("ab", other, one))
        for function in (alltexts.whole, alltexts.fails, alltexts.lost, alltexts.lost_whole):
            self.assertEqual(function(way=other, signs="ba"), function("ba", other))


if __name__ == "__main__":
    unittest.main()
