"""[50]: how far a way must see."""

import itertools
import random
import unittest

from tests.oracle import all_texts, plain_need, plain_takes, random_way
from waystaken.errors import BadName, TooMany
from waystaken.seeing import Endless, Look, is_look, is_settled, look, settles
from waystaken.ways import Again, Letter, Row, Way

read = Way.read

# How long the texts are that are gone through one by one, by the number of signs.
LONGEST = {1: 10, 2: 7, 3: 5}


def plain_fits(way, text):
    """True if the way fits the text, None if it does not."""
    return True if plain_takes(way, text) is not None else None


def need_of(paper):
    """The need of a Look, None for an Endless."""
    return paper.need if isinstance(paper, Look) else None


class SeeingTest(unittest.TestCase):
    def assert_paper(self, paper, signs, way, results, first_counts):
        """What is told is shown by its texts, and short texts do not show more."""
        case = (signs, str(way), vars(paper))
        if isinstance(paper, Endless):
            self.assertNotEqual(paper.ring, "", case)
            head = paper.head
            result = results(head + paper.one)
            self.assertIsNotNone(result, case)
            self.assertLessEqual(first_counts(result), len(head), case)
            for _ in range(8):
                self.assertEqual(results(head + paper.one), result, case)
                self.assertNotEqual(results(head + paper.other), result, case)
                head += paper.ring
            self.assertLessEqual(set(head + paper.one + paper.other), set(signs))
            return
        self.assertIs(paper.__class__, Look)
        self.assertLessEqual(plain_need(signs, LONGEST[len(signs)], results, first_counts), paper.need, case)
        if paper.need == 0:
            self.assertEqual((paper.one, paper.other), (None, None), case)
            return
        result = results(paper.one)
        self.assertIsNotNone(result, case)
        self.assertNotEqual(results(paper.other), result, case)
        size = first_counts(result) + paper.need - 1
        self.assertGreaterEqual(min(len(paper.one), len(paper.other)), size, case)
        self.assertEqual(paper.one[:size], paper.other[:size], case)
        self.assertLessEqual(set(paper.one + paper.other), set(signs))

    def assert_look(self, signs, way):
        paper = look(signs, way)
        self.assert_paper(paper, signs, way, lambda text: plain_takes(way, text), lambda taken: taken)
        if need_of(paper) != 0:
            self.assertIs(is_look(way, paper), True, (signs, str(way)))

    def assert_settles(self, signs, way):
        paper = settles(signs, way)
        self.assert_paper(paper, signs, way, lambda text: plain_fits(way, text), lambda fits: 0)
        if need_of(paper) != 0:
            self.assertIs(is_settled(way, paper), True, (signs, str(way)))

    def test_needs_by_hand(self):
        # None stands for an Endless.
        for signs, way, need, settled in [
                ("ab", "a", 0, 1), ("ab", ".", 0, 1), ("ab", "()", 0, 0), ("ab", "!()", 0, 0), ("ab", "a*", 1, 0),
                ("ab", ".*", 1, 0), ("ab", "a b", 0, 2), ("ab", "a a b", 0, 3), ("ab", "a / a b", 0, 1),
                ("ab", "a b / a", 1, 1), ("ab", "a a b / a", 2, 1), ("ab", "a a a b / a", 3, 1), ("ab", "!(a b)", 2, 2),
                ("ab", "!(a a b)", 3, 3), ("ab", "&(a a a)", 3, 3), ("ab", "a !.", 1, 2), ("ab", "!.", 1, 1),
                ("ab", "(a b)*", 2, 0), ("ab", "a* b / a", None, 1), ("ab", "a* b", 0, None),
                ("ab", "&(a* b)", None, None), ("ab", "!(a* b)", None, None), ("ab", "(a* b)?", None, 0),
                ("ab", "(a* b)*", None, 0), ("ab", "a b?", 1, 1), ("ab", "c", 0, 0), ("ab", "c*", 0, 0), ("ab", "a c", 0, 0),
                ("ab", "a c / a", 0, 1), ("abc", "a c / a", 1, 1), ("a", ".", 0, 1), ("a", "a*", 1, 0), ("a", "a a / a", 1, 1),
                ("a", "(a a)* !.", 1, None), ("a", "((a a)* a)?", None, 0), ("ab", "a / b", 0, 1), ("ab", "() / a", 0, 0),
                ("ab", ". !.", 1, 2), ("abc", "(c / a b)*", 2, 0), ("ab", "!a .*", 1, 1)]:
            self.assertEqual(need_of(look(signs, read(way))), need, (signs, way))
            self.assertEqual(need_of(settles(signs, read(way))), settled, (signs, way))
            self.assert_look(signs, read(way))
            self.assert_settles(signs, read(way))

    def test_the_end_of_a_text_is_seen_like_a_letter(self):
        paper = look("a", read("a !."))
        self.assertEqual((paper.need, paper.one), (1, "a"))
        paper = look("a", read("a*"))
        self.assertEqual(paper.need, 1)
        self.assertEqual(need_of(look("a", read("!(. .)"))), 2)

    def test_small_ways(self):
        small = ["a", "b", ".", "()", "a b", "a*", "!a", "!.", "a?", "&(a b)", "c"]
        around = ["{0} ({1})", "{0} / {1}", "({0} / {1})*", "({0} ({1}))*", "!({0} / {1})", "&({0} ({1}))", "({0})* {1}",
                  "({0} ({1}))?", "({0})* {1} / a"]
        for one, other in itertools.product(small, small):
            for text in around:
                way = read(text.format(one, other))
                if len(way) <= 7:
                    self.assert_look("ab", way)
                    self.assert_settles("ab", way)

    def test_random_ways(self):
        rng = random.Random(50)
        for _ in range(400):
            signs = rng.choice(["a", "ab", "ba", "abc", "cab"])
            way = random_way(rng, rng.choice([3, 5, 6, 7, 7]), rng.choice([signs, "abc"]))
            self.assert_look(signs, way)
            self.assert_settles(signs, way)

    def test_need_grows_with_the_way(self):
        for many in range(1, 5):
            way = read("!(" + "a " * many + "b)")
            self.assertEqual(need_of(look("ab", way)), many + 1)
            self.assertEqual(need_of(settles("ab", way)), many + 1)

    def test_rings_of_more_letters(self):
        for signs, way in [("ab", "(a b)* !a"), ("abc", "(a b c)* a"), ("abc", "((a b)* a)?"), ("a", "((a a)* a)?"),
                           ("a", "&((a a)* a)"), ("abc", "&((a b)* c)"), ("a", "(a a a)* a")]:
            self.assert_look(signs, read(way))
            self.assert_settles(signs, read(way))
        self.assertIsNone(need_of(look("a", read("((a a)* a)?"))))
        self.assertIsNone(need_of(settles("abc", read("(a b c)* a"))))


class PapersTest(unittest.TestCase):
    def test_looks_that_show_it(self):
        way = read("a a b / a")
        for need, one, other in [
                (2, "aa", "aab"), (1, "aa", "aab"), (2, "aaa", "aab"), (1, "ab", "aab"), (1, "a", "aab")]:
            self.assertIs(is_look(way, Look(need, one, other)), True, (need, one, other))
        self.assertIs(is_look(read("!a"), Look(1, "b", "a")), True)
        self.assertIs(is_look(read("!a"), Look(1, "", "a")), True)
        self.assertIs(is_look(read("a* b"), Look(1, "ab", "a")), False)

    def test_looks_that_do_not_show_it(self):
        way = read("a a b / a")
        self.assertTrue(is_look(way, Look(2, "aa", "aab")))
        for need, one, other in [
                (3, "aa", "aab"), (4, "aa", "aab"), (10 ** 30, "aa", "aab"),  # a wrong need
                (2, "aa", "aa"), (1, "aab", "aab"), (1, "a", "a"), (1, "", ""),  # the same text twice
                (2, "aa", "aaa"), (2, "aa", "ab"), (1, "aab", "aaba"),  # the same letters taken
                (2, "a", "aab"), (2, "aa", "a"), (3, "aaa", "aa"), (1, "a", ""),  # a text too short
                (2, "ab", "aab"), (1, "aa", "baa"), (1, "aa", "b"),  # too little in common
                (2, "aab", "aa"), (1, "b", "a"), (1, "", "a")]:  # the wrong way round, or no fit
            self.assertIs(is_look(way, Look(need, one, other)), False, (need, one, other))

    def test_settled_looks(self):
        way = read("a a b")
        for need, one, other in [(1, "aab", ""), (1, "aab", "b"), (2, "aab", "ab"), (3, "aab", "aa"), (3, "aab", "aaa"),
                                 (1, "aabb", "aaa"), (3, "aabbb", "aaab")]:
            self.assertIs(is_settled(way, Look(need, one, other)), True, (need, one, other))
        for need, one, other in [
                (4, "aab", "aaa"), (4, "aab", "aa"), (3, "aab", "ab"), (2, "aab", "b"), (2, "aab", ""),
                (1, "aab", "aab"), (1, "aab", "aaba"), (1, "", "aab"), (3, "aaa", "aab"), (1, "", "")]:
            self.assertIs(is_settled(way, Look(need, one, other)), False, (need, one, other))

    def test_endless_papers(self):
        way = read("a* b / a")
        for head, ring, one, other in [("a", "a", "", "b"), ("a", "aa", "", "b"), ("a", "a", "ac", "ab"), ("ab", "c", "", "")]:
            shown = (head, ring, one, other) != ("ab", "c", "", "")
            self.assertIs(is_look(way, Endless(head, ring, one, other)), shown)
        for head, ring, one, other in [
                ("a", "", "", "b"),  # an empty ring
                ("", "a", "", "b"), ("", "a", "a", "ab"),  # no letters are taken, or more than head has
                ("a", "a", "b", ""), ("a", "a", "", ""), ("a", "a", "", "a"), ("a", "b", "", "b"), ("b", "a", "", "b"),
                ("a", "ab", "", "b"), ("b", "b", "a", "a")]:
            self.assertIs(is_look(way, Endless(head, ring, one, other)), False, (head, ring, one, other))

    def test_endless_papers_up_to_three_rings(self):
        for rounds in range(4):
            # Just with so many rings more is taken of the first text, and as
            # much of the other one.
            way = read("b " + "a " * rounds + "c / b a* c c / b")
            self.assertIs(is_look(way, Endless("b", "a", "", "cc")), True, rounds)
            self.assertIs(is_look(way, Endless("b", "a", "c", "cc")), False, rounds)
            way = read("!(b " + "a " * rounds + "c) b a* c / b")
            self.assertIs(is_look(way, Endless("b", "a", "", "c")), False, rounds)
            # The same for whether they fit.
            way = read("!(" + "a " * rounds + "c) a* (b / c)")
            self.assertIs(is_settled(way, Endless("", "a", "c", "a")), False, rounds)
            self.assertIs(is_settled(way, Endless("", "a", "b", "a")), True, rounds)
            way = read("a* b / " + "a " * rounds + "c")
            self.assertIs(is_settled(way, Endless("", "a", "b", "c")), False, rounds)
            self.assertIs(is_settled(way, Endless("", "a", "b", "a")), True, rounds)
        self.assertIs(is_look(read("!(b a a a a c) b a* c / b"), Endless("b", "a", "", "c")), True)
        self.assertIs(is_settled(read("!(a a a a c) a* c"), Endless("", "a", "c", "a")), True)

    def test_head_may_end_where_the_way_ends(self):
        way = read("a (a* b)?")
        self.assertIs(is_look(way, Endless("a", "a", "", "b")), True)
        self.assertIs(is_look(way, Endless("", "a", "a", "ab")), False)

    def test_endless_settled_papers(self):
        way = read("a* b")
        for head, ring, one, other in [("", "a", "b", ""), ("a", "a", "b", "a"), ("", "aa", "ab", "c"), ("a", "a", "bb", "c")]:
            self.assertIs(is_settled(way, Endless(head, ring, one, other)), True)
        for head, ring, one, other in [
                ("", "", "b", ""), ("", "a", "", "b"), ("", "a", "b", "b"), ("", "a", "a", "a"), ("", "b", "b", ""),
                ("c", "a", "b", ""), ("", "c", "b", "")]:
            self.assertIs(is_settled(way, Endless(head, ring, one, other)), False, (head, ring, one, other))

    def test_any_letters_and_bigger_ways(self):
        way = read("(a / b / c / d / e / f / g / h / i / j / k)*")
        self.assertGreater(len(way), 10)
        self.assertIs(is_look(way, Look(1, "abcz", "abcd")), True)
        self.assertIs(is_look(way, Look(2, "abcz", "abcd")), False)
        self.assertIs(is_look(way, Look(1, "abcz", "abcx")), False)
        self.assertIs(is_look(way, Look(1, "abc", "abcd")), True)
        self.assertIs(is_look(way, Look(1, "z", "az")), True)
        self.assertIs(is_look(read("x* y / x"), Endless("x", "x", "z", "y")), True)
        self.assertIs(is_settled(read("q w e r t y u i o p"), Look(10, "qwertyuiop", "qwertyuioq")), True)
        self.assertIs(is_settled(read("q w e r t y u i o p"), Look(11, "qwertyuiop", "qwertyuioq")), False)
        self.assertIs(is_settled(read("(q w e r t)* y"), Endless("qwert", "qwert", "y", "q")), True)
        self.assertIs(is_look(read("(.* .)*"), Look(1, "z" * 100, "z" * 99)), False)

    def test_random_papers(self):
        rng = random.Random(51)
        shown = 0
        for _ in range(4000):
            way = random_way(rng, rng.randint(2, 9), "ab")
            one, other = ["".join(rng.choice("ab") for _ in range(rng.randint(0, 4))) for _ in range(2)]
            need = rng.randint(1, 3)
            taken = plain_takes(way, one)
            plain = False
            if taken is not None and taken != plain_takes(way, other):
                size = taken + need - 1
                plain = len(one) >= size and len(other) >= size and one[:size] == other[:size]
            self.assertIs(is_look(way, Look(need, one, other)), plain)
            plain = (taken is not None and plain_takes(way, other) is None and len(one) >= need - 1
                     and len(other) >= need - 1 and one[:need - 1] == other[:need - 1])
            self.assertIs(is_settled(way, Look(need, one, other)), plain)
            shown += plain
        self.assertGreater(shown, 20)

    def test_papers_of_other_ways(self):
        ways = [read(text) for text in ("a*", "a b / a", "!(a b)", "a* b / a", "(a* b)*", "a")]
        for way, other in itertools.product(ways, ways):
            paper = look("ab", other)
            if isinstance(paper, Endless):
                plain = []
                for rounds in range(4):
                    head = paper.head + paper.ring * rounds
                    plain.append((plain_takes(way, head + paper.one), plain_takes(way, head + paper.other)))
                taken = plain[0][0]
                shown = (taken is not None and taken <= len(paper.head)
                         and all(one == taken and text != taken for one, text in plain))
                self.assertIs(is_look(way, paper), shown)


class ErrorsTest(unittest.TestCase):
    def test_seven_parts(self):
        for function in (look, settles):
            function("ab", Row([Letter("a") for _ in range(6)]))
            for way in (Row([Letter("a") for _ in range(7)]), Again(Row([Letter("a") for _ in range(6)]))):
                with self.assertRaises(TooMany) as caught:
                    function("ab", way)
                self.assertEqual(caught.exception.what, "parts")

    def test_calls_first_of_all(self):
        for text in ("<x>", "a / <x> / <y>", "a a a a a a a a !<x>"):
            for call in (lambda way: look("ab", way), lambda way: settles("ab", way),
                         lambda way: is_look(way, Look(1, "a", "b")), lambda way: is_settled(way, Look(1, "a", "b")),
                         lambda way: is_look(way, Endless("", "", "", "")),
                         lambda way: is_settled(way, Endless("", "", "", ""))):
                with self.assertRaises(BadName) as caught:
                    call(read(text))
                self.assertEqual(caught.exception.name, "x")

    def test_attributes_and_arguments_by_name(self):
        paper = Look(need=2, one="aa", other="aab")
        self.assertEqual((paper.need, paper.one, paper.other), (2, "aa", "aab"))
        self.assertTrue(is_look(paper=paper, way=read("a a b / a")))
        paper = Endless(head="a", ring="b", one="c", other="d")
        self.assertEqual((paper.head, paper.ring, paper.one, paper.other), ("a", "b", "c", "d"))
        self.assertFalse(is_settled(paper=paper, way=read("a")))
        self.assertEqual(look(way=read("a*"), signs="ab").need, 1)
        self.assertEqual(settles(way=read("a*"), signs="ab").need, 0)

    def test_short_texts_of_all_kinds_of_papers(self):
        # What is told is told for the signs asked: other letters do not count.
        self.assertEqual(need_of(look("ab", read("c* d / c"))), 0)
        self.assertIsNone(need_of(look("cd", read("c* d / c"))))
        self.assertEqual([text for text in all_texts("ab", 2) if plain_takes(read("!c"), text) is None], [])
        self.assertEqual(need_of(settles("ab", read("!c"))), 0)
        self.assertEqual(need_of(settles("abc", read("!c"))), 1)


if __name__ == "__main__":
    unittest.main()
