"""[2], [10]: ways, their parts and paths, and the interface of ways."""

import itertools
import random
import unittest

from tests.oracle import paths_of, random_way
from waystaken.ways import (
    Again, Ahead, Call, Choice, Letter, Maybe, Nothing, One, Row, Unless, Way)

A = Letter("a")
B = Letter("b")


def samples():
    """Ways of all kinds, all unlike."""
    single = [A, B, One(), Nothing(), Call("a"), Call("ab")]
    lists = [[A, B], [B, A], [A, A], [A, B, A], [A, Row([A, B])], [Row([A, B]), A], [A, Choice([A, B])]]
    rows = [kind(ways) for kind in (Row, Choice) for ways in lists]
    inner = [A, B, One(), Row([A, B]), Choice([A, B]), Again(A), Unless(A)]
    return single + rows + [kind(part) for kind in (Again, Maybe, Ahead, Unless) for part in inner]


class WaysTest(unittest.TestCase):
    def test_attributes(self):
        self.assertEqual(Letter("q").letter, "q")
        self.assertEqual(Letter(letter="q").letter, "q")
        self.assertEqual(Call("abcdefghijkl").name, "abcdefghijkl")
        self.assertEqual(Call(name="x").name, "x")
        for kind in (Row, Choice):
            self.assertEqual(kind([A, B]).ways, (A, B))
            self.assertEqual(kind(ways=(A, B, A)).ways, (A, B, A))
            self.assertIs(kind([A, B]).ways.__class__, tuple)
        for kind in (Again, Maybe, Ahead, Unless):
            self.assertIs(kind(A).part, A)
            self.assertIs(kind(part=A).part, A)

    def test_classes(self):
        for way in samples():
            self.assertIsInstance(way, Way)
            self.assertEqual(way.__class__.__bases__, (Way,))

    def test_lists_are_copied(self):
        for kind in (Row, Choice):
            ways = [A, B]
            way = kind(ways)
            ways.append(A)
            ways[0] = One()
            self.assertEqual(way.ways, (A, B))
            self.assertEqual(len(way), 3)

    def test_methods_stand_in_way_itself(self):
        for name in ("__eq__", "__add__", "__or__", "__str__", "__len__", "read", "at"):
            self.assertIn(name, Way.__dict__)

    def test_equal(self):
        for one, other in itertools.product(enumerate(samples()), enumerate(samples())):
            self.assertEqual(one[1] == other[1], one[0] == other[0])
            self.assertEqual(one[1] != other[1], one[0] != other[0])

    def test_equal_all_the_way_down(self):
        def deep(letter, kind):
            way = Letter(letter)
            for _ in range(20):
                way = Row([One(), kind(Choice([way, Nothing()]))])
            return way
        self.assertEqual(deep("a", Maybe), deep("a", Maybe))
        self.assertNotEqual(deep("a", Maybe), deep("b", Maybe))
        self.assertNotEqual(deep("a", Maybe), deep("a", Again))

    def test_not_equal_to_other_things(self):
        for thing in ("a", 1, None, (), [], [A, B], (A, B), object()):
            for way in samples():
                self.assertFalse(way == thing)
                self.assertTrue(way != thing)

    def test_signs(self):
        self.assertEqual(A + B, Row([A, B]))
        self.assertEqual(A | B, Choice([A, B]))
        self.assertEqual(A + B + One(), Row([Row([A, B]), One()]))
        self.assertEqual(A | B | One(), Choice([Choice([A, B]), One()]))
        self.assertEqual(A | B + One(), Choice([A, Row([B, One()])]))

    def test_signs_change_nothing(self):
        row = Row([A, B])
        self.assertEqual((row + A).ways, (row, A))
        self.assertEqual((row | A).ways, (row, A))
        self.assertEqual(row.ways, (A, B))

    def test_len(self):
        for way in (A, One(), Nothing(), Call("abc")):
            self.assertEqual(len(way), 1)
        self.assertEqual(len(Again(A)), 2)
        self.assertEqual(len(Row([A, B])), 3)
        self.assertEqual(len(Row([A, Choice([B, Again(Call("x"))]), Unless(Nothing())])), 8)
        self.assertEqual(len(Row([A] * 63)), 64)

    def test_at(self):
        way = Row([Choice([A, Row([B, One()])]), Again(Maybe(B)), Call("x")])
        self.assertIs(way.at(()), way)
        self.assertIs(way.at(path=(0, 1, 1)), way.ways[0].ways[1].ways[1])
        self.assertEqual(way.at((1, 0, 0)), B)
        self.assertEqual(way.at((2,)), Call("x"))
        self.assertIs(A.at(()), A)

    def test_at_where_nothing_is(self):
        way = Row([Choice([A, B]), Again(Maybe(B)), Call("x"), Nothing()])
        for path in [(4,), (10 ** 30,), (0, 2), (0, 0, 0), (1, 1), (1, 0, 1), (1, 0, 0, 0), (2, 0), (3, 0),
                     (4, 0), (0, 2, 0, 0)]:
            self.assertIsNone(way.at(path))
        for part in (A, One(), Nothing(), Call("x")):
            self.assertIsNone(part.at((0,)))

    def test_parts_and_paths_of_many_ways(self):
        rng = random.Random(5)
        for _ in range(200):
            way = random_way(rng, rng.randint(1, 64), "abc")
            pairs = paths_of(way)
            self.assertEqual(len(way), len(pairs))
            for path, part in pairs:
                self.assertIs(way.at(path), part)

    def test_ways_count_as_true(self):
        self.assertTrue(Nothing() and A)


if __name__ == "__main__":
    unittest.main()
