"""[1], [30], [31], [32]: what holds for all texts over some signs."""

import itertools
import random
import unittest

from tests.oracle import all_texts, first, plain_ends, plain_takes, random_way
from waystaken.alltexts import (
    apart, beyond, counted, fails, fit_both, lost, lost_whole, uncovered, whole, whole_apart)
from waystaken.ways import Way

read = Way.read

# How long the texts are that are gone through one by one, by the number of signs.
LONGEST = {1: 12, 2: 8, 3: 5}

OF_TWO = {
    apart: lambda one, other, size: one != other,
    beyond: lambda one, other, size: one is not None and one != other,
    uncovered: lambda one, other, size: one is None and other is not None,
    fit_both: lambda one, other, size: one is not None and other is not None,
    whole_apart: lambda one, other, size: (one == size) != (other == size),
}
OF_ONE = {
    whole: lambda way, text: plain_takes(way, text) == len(text),
    fails: lambda way, text: plain_takes(way, text) is None,
    lost: lambda way, text: plain_takes(way, text) is None and plain_ends(way, text, 0) != set(),
    lost_whole: lambda way, text: plain_takes(way, text) != len(text) and len(text) in plain_ends(way, text, 0),
}


class AllTextsTest(unittest.TestCase):
    def assert_first(self, told, signs, shows, case):
        """The text told is the first one that shows it, as far as plain reading goes."""
        plain = first(signs, LONGEST[len(signs)], shows)
        if plain is None and told is not None:
            self.assertGreater(len(told), LONGEST[len(signs)], case)
            self.assertTrue(shows(told), case)
            self.assertLessEqual(set(told), set(signs))
        else:
            self.assertEqual(told, plain, case)

    def assert_first_of_two(self, signs, one, other):
        texts = list(all_texts(signs, LONGEST[len(signs)]))
        taken = {text: (plain_takes(one, text), plain_takes(other, text)) for text in texts}
        for function, shows in OF_TWO.items():
            def shown(text):
                pair = taken.get(text) or (plain_takes(one, text), plain_takes(other, text))
                return shows(*pair, len(text))
            self.assert_first(function(signs, one, other), signs, shown,
                              (function.__name__, signs, str(one), str(other)))

    def assert_first_of_one(self, signs, way):
        for function, shows in OF_ONE.items():
            self.assert_first(function(signs, way), signs, lambda text: shows(way, text),
                              (function.__name__, signs, str(way)))

    def test_pairs_of_small_ways(self):
        small = [read(text) for text in (
            "a", ".", "()", "a b", "a / a a", "a a / a", "a a / b", "a*", "a* a", "a? a*", "(a b)*", "&a", "!a", "!.",
            "a !.", ".*", "(!b .)*", "(a / b)*", "a* b", "c")]
        for one, other in itertools.product(small, small):
            if len(one) + len(other) <= 10:
                self.assert_first_of_two("ab", one, other)

    def test_pairs_of_random_ways(self):
        rng = random.Random(30)
        for _ in range(300):
            signs = rng.choice(["a", "ab", "ba", "abc", "cab", "bca", "zx"])
            letters = rng.choice([signs, signs + "abc"])
            parts = rng.randint(1, 9)
            one = random_way(rng, parts, letters)
            self.assert_first_of_two(signs, one, random_way(rng, 10 - parts, letters))

    def test_random_ways(self):
        rng = random.Random(31)
        for _ in range(300):
            signs = rng.choice(["a", "ab", "ba", "abc", "cab", "bca", "zx"])
            letters = rng.choice([signs, signs + "abc"])
            self.assert_first_of_one(signs, random_way(rng, rng.choice([1, 2, 4, 7, 9, 10, 10]), letters))


class TwoWaysTest(unittest.TestCase):
    def test_alike(self):
        for one, other in [("a*", "a? a*"), ("a*", "a**"), ("a / b", "b / a"), ("a / a b", "a"), ("a* a", "!()"),
                           ("&a .", "a"), ("!!a", "&a"), ("a* a", "b (!())"), ("(a / ())*", "a*"), ("() / a", "()"),
                           ("a?", "a / ()"), ("(a a)*", "(a a)**"), ("&(a b) a", "a &b"), ("a (b / c)", "a !a .")]:
            self.assertIsNone(apart("abc", read(one), read(other)), (one, other))
            self.assertIsNone(beyond("abc", read(one), read(other)))
            self.assertIsNone(uncovered("abc", read(one), read(other)))
            self.assertIsNone(whole_apart("abc", read(one), read(other)))

    def test_apart_by_hand(self):
        for signs, one, other, text in [
                ("ab", "a / a a", "a a / a", "aa"), ("ab", "()", "a", ""), ("ab", "a", "b", "a"), ("ba", "a", "b", "b"),
                ("ab", "a*", "a a a a?", ""), ("ab", "a?", "()", "a"), ("ab", "a* b", "a a a b", "b"),
                ("ab", ".*", "a*", "b"), ("ba", ".* ", "a*", "b"), ("ab", "(a a)*", "a*", "a"),
                ("abc", "a b", "a b / a c", "ac"), ("abc", "a a a a a", "a a a", "aaa"),
                ("ab", "!(a a a a)", "a?", "a"), ("ab", "!(a a a b)", "()", "aaab"), ("a", "!b", "()", None)]:
            self.assertEqual(apart(signs, read(one), read(other)), text, (signs, one, other))
            self.assertEqual(apart(signs, read(other), read(one)), text, (signs, one, other))

    def test_alike_is_more_than_taking_the_same_texts_whole(self):
        one, other = read("a b / a"), read("a b?")
        self.assertIsNone(apart("ab", one, other))
        one, other = read("a !."), read("a")
        self.assertIsNone(whole_apart("ab", one, other))
        self.assertEqual(apart("ab", one, other), "aa")
        self.assertEqual(beyond("ab", other, one), "aa")
        self.assertIsNone(beyond("ab", one, other))

    def test_within_and_covers(self):
        one, other = read("a b"), read("a b / b")
        self.assertIsNone(beyond("ab", one, other))
        self.assertEqual(beyond("ab", other, one), "b")
        self.assertIsNone(uncovered("ab", other, one))
        self.assertEqual(uncovered("ab", one, other), "b")
        self.assertIsNone(uncovered("ab", read("a"), read("a a")))
        self.assertEqual(beyond("ab", read("a a"), read("a")), "aa")
        self.assertEqual(beyond("ab", read("()"), read("a?")), "a")
        self.assertEqual(beyond("ab", read("()"), read("a")), "")

    def test_fit_both(self):
        self.assertEqual(fit_both("ab", read("a .*"), read("a b a a")), "abaa")
        self.assertIsNone(fit_both("ab", read("a"), read("b")))
        self.assertIsNone(fit_both("ab", read("!a"), read("&a .")))
        self.assertEqual(fit_both("ab", read("()"), read("a*")), "")
        self.assertEqual(fit_both("ba", read("."), read(". .")), "bb")

    def test_a_way_and_itself(self):
        for text in ("a", "a / a a", "(a b)*", "!a", "!."):
            way = read(text)
            self.assertIsNone(apart("ab", way, way))
            self.assertIsNone(beyond("ab", way, way))
            self.assertIsNone(uncovered("ab", way, way))
            self.assertIsNone(whole_apart("ab", way, way))

    def test_letters_that_are_no_signs(self):
        self.assertIsNone(apart("ab", read("c"), read("!()")))
        self.assertIsNone(apart("ab", read("a / c"), read("a")))
        self.assertIsNone(apart("ab", read("c*"), read("()")))
        self.assertIsNone(apart("ab", read("!c a"), read("a")))
        self.assertEqual(apart("abc", read("a / c"), read("a")), "c")
        self.assertEqual(apart("cba", read("!c a"), read(".")), "c")
        self.assertIsNone(fit_both("ab", read("c"), read(".*")))
        self.assertIsNone(whole("ab", read("a c")))
        self.assertEqual(fails("ab", read("c")), "")
        self.assertEqual(fails("ab", read("!(a b)")), "ab")
        self.assertIsNone(fails("ab", read("!c")))

    def test_one_sign(self):
        self.assertEqual(apart("a", read("(a a)*"), read("(a a a)*")), "aa")
        self.assertEqual(whole_apart("a", read("(a a)*"), read("(a a a)*")), "aa")
        self.assertIsNone(apart("a", read("."), read("a")))
        self.assertEqual(apart("b", read("."), read("a")), "b")

    def test_order_of_signs(self):
        one, other = read("a a / b b"), read("!()")
        for signs, text in [("ab", "aa"), ("ba", "bb"), ("cab", "aa"), ("cba", "bb"), ("bca", "bb")]:
            self.assertEqual(apart(signs, one, other), text)
            self.assertEqual(beyond(signs, one, other), text)
            self.assertEqual(whole_apart(signs, one, other), text)
            self.assertEqual(whole(signs, one), text)
        self.assertEqual(whole("bac", read(". . .")), "bbb")
        self.assertEqual(fails("bac", read("!(. . .)")), "bbb")
        self.assertEqual(whole("cab", read("!c . .")), "ac")


class OneWayTest(unittest.TestCase):
    def test_whole(self):
        for way, text in [("a", "a"), ("()", ""), ("a*", ""), ("a* b", "b"), ("a* a", None), ("!()", None), (". a .", "aaa"),
                          ("!a . .", "ba"), ("&a b", None), ("a !a !b", "a"), ("a / a b", "a"), ("(a / a b) b", "ab"),
                          ("(a / a b) b b", "abb"), ("&(b a) . b", None), ("&(b a) . .", "ba"), ("a &b", None)]:
            self.assertEqual(whole("ab", read(way)), text, way)

    def test_fails(self):
        for way, text in [("a", ""), ("()", None), ("a*", None), ("a?", None), ("!(a b a)", "aba"), ("!.", "a"),
                          ("!(. . . .)", "aaaa"), ("a / !a", None), ("a / !b", "b"), ("a / b / !.", None), (".* .", ""),
                          ("!(a* b)", "b"), ("!(a a* b)", "ab"), ("!(b* !.)", "")]:
            self.assertEqual(fails("ab", read(way)), text, way)

    def test_lost(self):
        for way, text in [("a / a b", None), ("(a / a b) c", "abc"), ("(a b / a) c", None), ("a* a", "a"), ("a? a", "a"),
                          ("a* b", None), ("(a / a b) (c / b)", None), ("(() / a) b", "ab"), ("(a / a b) !b", "ab"),
                          ("!(a* a)", None), ("&(a* a)", None), ("(a / b)* a", "a"), ("c* (c c / b)", "cc")]:
            self.assertEqual(lost("abc", read(way)), text, way)

    def test_lost_whole(self):
        for way, text in [("a / a b", "ab"), ("a b / a", None), ("a*", None), ("(a / a b) c", "abc"), ("() / a", "a"),
                          ("(a / a a)*", None), ("(a / a b)*", "ab"), ("(a a / a)* a", "a"), ("a* a?", None),
                          ("(() / a)*", "a"), ("(a / a b) (c / b)", "abb"), ("!(a / a b) .", None)]:
            self.assertEqual(lost_whole("abc", read(way)), text, way)

    def test_looks_do_not_go_back(self):
        # Within a look nobody goes back, not even when all ends are asked.
        self.assertIsNone(lost("ab", read("&((a / a b) a)")))
        self.assertIsNone(lost_whole("ab", read("!((a / a b) a) b")))

    def test_ways_of_ten_parts(self):
        for way, function, text in [
                ("a b b a b a b b a", whole, "abbababba"), ("!(a b a b a b a a)", fails, "abababaa"),
                ("&b (. a b a)* c", lost, "babacaba"), ("(c (. b a c) c*)*", lost_whole, "cabaccabac"),
                ("((. (. . a))* c)?", fails, None), ("&(a . (b . . .) a)", whole, None)]:
            way = read(way)
            self.assertIn(len(way), (9, 10))
            self.assertEqual(function("abc", way), text, str(way))
        for one, other, function, text in [
                ("()", "(b a (a b b .))*", apart, "baabba"), ("a . b (b b b .)", "b", beyond, "aabbbba"),
                ("a", "b a a (a . b b)", uncovered, "baaaabb"), ("&a", "(a b .) . . b", whole_apart, "abaaab"),
                ("()", "a (. . . .) . b", fit_both, "aaaaaab")]:
            one, other = read(one), read(other)
            self.assertLessEqual(len(one) + len(other), 10)
            self.assertEqual(function("ab", one, other), text, (str(one), str(other)))


class CountedTest(unittest.TestCase):
    def assert_counted(self, signs, way, n):
        plain = [0, 0, 0]
        for letters in itertools.product(signs, repeat=n):
            taken = plain_takes(way, "".join(letters))
            plain[2 if taken is None else 0 if taken == n else 1] += 1
        told = counted(signs, way, n)
        self.assertEqual(told, tuple(plain), (signs, str(way), n))
        self.assertIs(told.__class__, tuple)

    def test_no_letters(self):
        for way, told in [("()", (1, 0, 0)), ("a", (0, 0, 1)), ("a*", (1, 0, 0)), ("!.", (1, 0, 0)), ("!()", (0, 0, 1))]:
            self.assertEqual(counted("ab", read(way), 0), told)

    def test_few_letters(self):
        ways = ["a", ".", "()", "a*", "a* b", "(a b)*", "!a .", "&a .*", "a / a b", "(a / b b)*", "!(a b) . .", "c / a",
                "(a a)* !.", "(!(a b) .)*"]
        for way, n, signs in itertools.product(ways, range(6), ["a", "ab", "cab"]):
            self.assert_counted(signs, read(way), n)

    def test_random_ways(self):
        rng = random.Random(60)
        for _ in range(150):
            self.assert_counted(rng.choice(["ab", "bac"]), random_way(rng, rng.randint(1, 10), "abc"), rng.randint(0, 5))

    def test_sixty_letters(self):
        pairs = [1, 1]
        while len(pairs) < 61:
            pairs.append(pairs[-1] + pairs[-2])
        self.assertEqual(counted("ab", read("(a / b b)*"), 60), (pairs[60], 2 ** 60 - pairs[60], 0))
        self.assertEqual(counted("abc", read(".*"), 60), (3 ** 60, 0, 0))
        self.assertEqual(counted("abc", read("a*"), 60), (1, 3 ** 60 - 1, 0))
        self.assertEqual(counted("abc", read("a* b"), 60), (1, (3 ** 60 - 3) // 2, (3 ** 60 + 1) // 2))
        self.assertEqual(counted("a", read("(a a a)*"), 60), (1, 0, 0))
        self.assertEqual(counted("a", read("(a a a)* !."), 59), (0, 0, 1))
        self.assertEqual(counted(signs="ab", way=read("!a .*"), n=60), (2 ** 59, 0, 2 ** 59))

    def test_sums(self):
        rng = random.Random(61)
        for _ in range(40):
            told = counted("abc", random_way(rng, 10, "abc"), 60)
            self.assertEqual(sum(told), 3 ** 60)
            self.assertGreaterEqual(min(told), 0)


if __name__ == "__main__":
    unittest.main()
