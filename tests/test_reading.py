"""[11], [20], [21], [22]: reading one text, short or far."""

import random
import sys
import unittest

from tests.oracle import all_texts, plain_ends, plain_takes, random_way
from waystaken.reading import ends, far_takes, takes
from waystaken.ways import Again, Ahead, Choice, Letter, Maybe, Nothing, One, Row, Unless, Way

# A way, a text, and what the way takes at each place of it.
TAKEN = [
    ("a", "aba", [1, None, 1, None]), (".", "ab", [1, 1, None]), ("()", "ab", [0, 0, 0]),
    ("a", "", [None]), (".", "", [None]), ("()", "", [0]), ("a*", "", [0]), ("a?", "", [0]), ("!.", "", [0]),
    ("a b", "aab", [None, 2, None, None]), ("a () b", "ab", [2, None, None]), ("() ()", "a", [0, 0]),
    ("a b a", "ababa", [3, None, 3, None, None, None]), ("a (b a)", "aba", [3, None, None, None]),
    ("a / b", "abc", [1, 1, None, None]), ("a / a b", "ab", [1, None, None]), ("a b / a", "aba", [2, None, 1, None]),
    ("() / a", "aa", [0, 0, 0]), ("a b / a c / a", "aacab", [1, 2, None, 2, None, None]),
    ("(a / a b) c", "abc", [None, None, None, None]), ("(a b / a) c", "abcac", [3, None, None, 2, None, None]),
    ("a*", "aabaaa", [2, 1, 0, 3, 2, 1, 0]), ("a* a", "aaa", [None, None, None, None]),
    ("(a b)*", "ababa", [4, 0, 2, 0, 0, 0]), (".*", "abc", [3, 2, 1, 0]), ("(a / b b)*", "abbab", [4, 3, 0, 1, 0, 0]),
    ("()*", "aa", [0, 0, 0]), ("a**", "aab", [2, 1, 0, 0]), ("(a?)*", "aab", [2, 1, 0, 0]), ("a?*", "aab", [2, 1, 0, 0]),
    ("(&a)*", "aa", [0, 0, 0]), ("(a* b?)*", "aabab", [5, 4, 3, 2, 1, 0]), ("(b? a*)*", "aaca", [2, 1, 0, 1, 0]),
    ("(() / a)*", "aaa", [0, 0, 0, 0]), ("(!b .)*", "aab", [2, 1, 0, 0]), ("(a / ())* b", "aab", [3, 2, 1, None]),
    ("a?", "aab", [1, 1, 0, 0]), ("a? a", "aab", [2, None, None, None]), ("(a b)?", "aab", [0, 2, 0, 0]),
    ("(a / ())? a", "aa", [2, None, None]), ("a??", "ab", [1, 0, 0]),
    ("&a", "ab", [0, None, None]), ("!a", "ab", [None, 0, 0]), ("&a .", "ab", [1, None, None]),
    ("!a .", "ab", [None, 1, None]), ("&(a b) a", "aab", [None, 1, None, None]), ("&&a", "ab", [0, None, None]),
    ("!!a", "ab", [0, None, None]), ("!&a", "ab", [None, 0, 0]), ("&!a", "ab", [None, 0, 0]), ("!a*", "ab", [None] * 3),
    ("&a*", "ab", [0, 0, 0]), ("!.", "ab", [None, None, 0]), ("a !.", "aa", [None, 1, None]),
    ("!(a b) .*", "aab", [3, None, 1, 0]), ("(!(a .* b) .)*", "caabc", [5, 4, 3, 2, 1, 0]),
    ("d / a", "abc", [1, None, None, None]), ("z*", "zzy", [2, 1, 0, 0]),
]


def written_out(blocks):
    """The text that these blocks tell."""
    return "".join([word * times for word, times in blocks])


def calls_of(action):
    """How many Python functions are called when action() is."""
    calls = []
    sys.setprofile(lambda frame, event, argument: calls.append(frame) if event == "call" else None)
    try:
        action()
    finally:
        sys.setprofile(None)
    return len(calls)


class TakesTest(unittest.TestCase):
    def test_each_kind_at_each_place(self):
        for way, text, taken in TAKEN:
            told = [takes(Way.read(way), text, place) for place in range(len(text) + 1)]
            self.assertEqual(told, taken, (way, text))

    def test_place(self):
        way = Way.read("a b")
        self.assertEqual(takes(way, "abab"), 2)
        self.assertEqual(takes(way, "baba"), None)
        self.assertEqual(takes(way=way, text="baba", place=1), 2)
        self.assertEqual(takes(way, "baba", 4), None)
        self.assertEqual(takes(Nothing(), ""), 0)

    def test_all_short_texts(self):
        rng = random.Random(20)
        for _ in range(60):
            way = random_way(rng, rng.randint(1, 12), "ab")
            for text in all_texts("ab", 6):
                for place in range(len(text) + 1):
                    self.assertEqual(takes(way, text, place), plain_takes(way, text, place), (str(way), text, place))

    def test_big_ways(self):
        rng = random.Random(64)
        for _ in range(60):
            way = random_way(rng, 64, "ab")
            text = "".join(rng.choice("aab") for _ in range(30))
            for place in range(31):
                self.assertEqual(takes(way, text, place), plain_takes(way, text, place), (str(way), text, place))

    def test_long_texts(self):
        self.assertEqual(takes(Way.read(".*"), "ab" * 100), 200)
        self.assertEqual(takes(Way.read("(a b)* !."), "ab" * 100, 100), 100)
        self.assertEqual(takes(Way.read("(a b)* !."), "ab" * 100, 101), None)
        self.assertEqual(takes(Way.read("(!(. . b b) .)*"), "a" * 150 + "bb" + "a" * 48), 148)

    def test_long_texts_are_short_work(self):
        # Each level asks twice what stands below it: too much if all of it is
        # read twice, and twice again.
        way = Letter("a")
        while len(way) < 60:
            way = Again(Maybe(way))
        self.assertEqual(takes(way, "a" * 200), 200)
        self.assertEqual(takes(way, "a" * 200, 150), 50)
        self.assertEqual(ends(way, "a" * 200), list(range(201)))
        way = Letter("a")
        while len(way) < 60:
            way = Row([Ahead(way), Unless(Unless(One()))])
        self.assertEqual(takes(way, "a" * 200), 0)
        self.assertEqual(ends(way, "a" * 200, 199), [0])
        way = Letter("a")
        while len(way) < 60:
            way = Choice([Row([way, Letter("b")]), Again(Letter("a"))])
        self.assertEqual(takes(way, "a" * 200), 200)

    def assert_short_work(self, way, text, taken):
        """What is taken, and that no part is read much more often than there are places."""
        told = []
        calls = calls_of(lambda: told.append(takes(way, text)))
        self.assertEqual(told, [taken])
        self.assertLess(calls, 4 * len(way) * (len(text) + 1), (str(way), len(text)))

    def test_long_and_nested_rounds_are_short_work(self):
        for text, way in [
                ("a" * 200, ".*"), ("a" * 200, "a*"), ("a" * 200, "((.* .)* .)*"), ("a" * 200, "((.* .)*)*"),
                ("a" * 200, "((a*)* a)*"), ("ab" * 100, "((a* b)* a)*"), ("a" * 200, "(!(.* b) .)*"),
                ("a" * 199 + "b", "(!(a* c) a)*"), ("ab" * 100, "(&(a* b) .)*"), ("a" * 200, "((a? a?)* b?)*"),
                ("a" * 200, "((a / a a)* a)*"), ("ab" * 100, "((a b)* (b a)*)*"), ("a" * 200, "(a*)* b / (a*)*"),
                ("a" * 200, "a****"), ("b" * 200, "((a*)* b)*"), ("a" * 200, "(!((a* a)*) a)*")]:
            self.assert_short_work(Way.read(way), text, far_takes(Way.read(way), [(text, 1)]))

    def test_big_nested_rounds_are_short_work(self):
        way = Again(One())
        while len(way) < 62:
            way = Again(Row([way, One()]))
        self.assert_short_work(way, "ab" * 100, 200)
        way = Again(One())
        while len(way) < 60:
            way = Again(Row([Unless(Row([way, Letter("c")])), One()]))
        self.assert_short_work(way, "ab" * 100, 200)
        way = Letter("a")
        while len(way) < 63:
            way = Again(Maybe(way))
        self.assert_short_work(way, "a" * 200, 200)
        self.assert_short_work(way, "b" * 200, 0)
        self.assert_short_work(Again(Row([*[Unless(Row([Again(One()), One()]))] * 12, One()])), "a" * 200, 200)

    def test_the_same_rounds_in_more_places(self):
        # One part stands at several places; what it takes there is the same.
        part = Again(Letter("a"))
        way = Again(Row([part, Letter("b"), part, Maybe(Again(part))]))
        for text in all_texts("ab", 7):
            for place in range(len(text) + 1):
                self.assertEqual(takes(way, text, place), plain_takes(way, text, place))
                plain = sorted(end - place for end in plain_ends(way, text, place))
                self.assertEqual(ends(way, text, place), plain)

    def test_nothing_is_remembered_of_other_texts(self):
        way = Way.read("((a* b)* c)*")
        for text in ["aabc", "abc", "aabbc", "c", "bcbc", "aabc"]:
            self.assertEqual(takes(way, text), plain_takes(way, text))
            self.assertEqual(takes(way, text, 1), plain_takes(way, text, 1))

    def test_short_texts_are_very_short_work(self):
        # Only what one comes to is read, and nothing beside it.
        for way, text, taken, most in [
                ("((a b? / !b .)* c / &(a b) .) b", "abca", 2, 60), ("((a b)? c)* / a* b", "abcab", 3, 30),
                ("((a b)? c)* / a* b", "a" * 30, 0, 15), ("(a b)? c*", "abca", 3, 15)]:
            way = Way.read(way)
            self.assertEqual(takes(way, text), taken)
            self.assertLessEqual(calls_of(lambda: takes(way, text)), most, (str(way), text))


class FarTest(unittest.TestCase):
    def test_examples(self):
        way = Way.read("(a b)* a")
        self.assertEqual(far_takes(way, [("ab", 10 ** 30), ("a", 1)]), 2 * 10 ** 30 + 1)
        self.assertEqual(far_takes(way, [("ab", 10 ** 30)]), None)
        self.assertEqual(far_takes(way, [["ab", 10 ** 30], ["a", 1]]), 2 * 10 ** 30 + 1)
        self.assertEqual(far_takes(way=way, blocks=(("ab", 10 ** 30), ("a", 1))), 2 * 10 ** 30 + 1)

    def test_no_letters(self):
        for blocks in ([], (), [("ab", 0)], [("a", 0), ("b", 0), ("ab", 0), ("abcdef", 0)]):
            self.assertEqual(far_takes(Way.read("a*"), blocks), 0)
            self.assertEqual(far_takes(Way.read("!."), blocks), 0)
            self.assertEqual(far_takes(Way.read("a"), blocks), None)
            self.assertEqual(far_takes(Way.read("."), blocks), None)

    def test_blocks_of_no_times(self):
        way = Way.read("a* b")
        self.assertEqual(far_takes(way, [("b", 0), ("a", 10 ** 30), ("c", 0), ("b", 1)]), 10 ** 30 + 1)
        self.assertEqual(far_takes(way, [("a", 10 ** 30), ("c", 1), ("b", 1)]), None)

    def test_four_blocks(self):
        many = 10 ** 30
        blocks = [("a", many), ("ab", many - 1), ("abcabc", many - 2), ("c", many - 3)]
        self.assertEqual(far_takes(Way.read(".*"), blocks), 10 * many - 17)
        self.assertEqual(far_takes(Way.read("a* b (a b)* c"), blocks), many + 2 * (many - 1) + 2 + 1)
        self.assertEqual(far_takes(Way.read("(!(c c) .)*"), blocks), 9 * many - 15)
        self.assertEqual(far_takes(Way.read("(!(c c c) .)*"), blocks), 9 * many - 15)
        self.assertEqual(far_takes(Way.read("&(.* !.) a*"), blocks), many + 1)

    def test_numbers_of_times_beside_each_other(self):
        for times in range(10 ** 30 - 8, 10 ** 30 + 1):
            odd = times % 2 == 1
            self.assertEqual(far_takes(Way.read("(a a)* !."), [("a", times)]), None if odd else times)
            self.assertEqual(far_takes(Way.read("(a a a)* a?"), [("a", times)]), times - (times % 3 == 2))
            self.assertEqual(far_takes(Way.read("a* b"), [("a", times), ("b", 1)]), times + 1)
            # What is done at the start hangs on the end of the text alone.
            self.assertEqual(far_takes(Way.read("&((a a)* b) / a"), [("a", times), ("b", 1)]), 1 if odd else 0)

    def test_what_is_known_of_a_block_counts_for_the_one_before(self):
        many = 10 ** 30
        for first, second in [(many + one, many + other) for one in range(6) for other in range(6)]:
            for way, size in [("&((a a)* b)", 2), ("&((a a a)* b)", 3)]:
                blocks = [("a", first), ("a", second), ("b", 1)]
                told = far_takes(Way.read(way), blocks)
                self.assertEqual(told, 0 if (first + second) % size == 0 else None, (way, blocks))
        rng = random.Random(23)
        for way in [Way.read(text) for text in ("(!((a a)* b) .)*", "(!(a a a) a)* b", "(&((a a)* b) a)*")]:
            for _ in range(150):
                blocks = [(rng.choice(["a", "aa", "ab", "b"]), rng.randint(0, 12)) for _ in range(4)]
                self.assertEqual(far_takes(way, blocks), plain_takes(way, written_out(blocks)), (str(way), blocks))

    def test_against_the_text_written_out(self):
        rng = random.Random(21)
        for _ in range(1500):
            way = random_way(rng, rng.randint(1, 10), "ab")
            blocks = [("".join(rng.choice("aab") for _ in range(rng.randint(1, 6))), rng.randint(0, 7))
                      for _ in range(rng.randint(0, 4))]
            self.assertEqual(far_takes(way, blocks), plain_takes(way, written_out(blocks)), (str(way), blocks))

    def test_far_texts_against_shorter_ones(self):
        # What a way takes grows evenly with 840 times more of a word: it has
        # too few parts to tell other numbers apart.
        rng = random.Random(30)
        for _ in range(60):
            way = random_way(rng, rng.randint(4, 10), "ab")
            word = "".join(rng.choice("ab") for _ in range(rng.randint(1, 2)))
            tail = ("".join(rng.choice("ab") for _ in range(rng.randint(1, 4))), 1)
            far = 10 ** 30 - rng.randint(0, 9)
            near = 40 + (far - 40) % 840
            low, high = [takes(way, written_out([(word, times), tail])) for times in (near, near + 840)]
            told = far_takes(way, [(word, far), tail])
            if low is None:
                self.assertIsNone(told, (str(way), word, tail, far))
            else:
                self.assertEqual(told, low + (high - low) * ((far - near) // 840), (str(way), word, tail, far))

    def test_letters_of_all_kinds(self):
        self.assertEqual(far_takes(Way.read("(x / y)* z"), [("xyx", 10 ** 20), ("z", 5)]), 3 * 10 ** 20 + 1)
        self.assertEqual(far_takes(Way.read("q"), [("xyx", 10 ** 20)]), None)


class EndsTest(unittest.TestCase):
    def test_by_hand(self):
        for way, text, told in [
                ("a", "a", [1]), ("a", "b", []), (".", "", []), ("()", "", [0]), ("a / a b", "ab", [1, 2]),
                ("(a / a b) c", "abc", [3]), ("(a / a b) c", "acabc", [2]), ("a*", "aaab", [0, 1, 2, 3]),
                ("a* a", "aaa", [1, 2, 3]), ("a?", "a", [0, 1]), ("a? a", "a", [1]), ("a? a", "aa", [1, 2]),
                ("&(a* a)", "aa", []), ("!(a* a)", "aa", [0]), ("&(a / b)", "b", [0]), ("!(a / b)", "b", []),
                ("(a / a b / ())*", "aab", [0, 1, 2, 3]), ("(a? b?)*", "aab", [0, 1, 2, 3]), ("()*", "a", [0]),
                ("(a a / a a a)*", "aaaaaaa", [0, 2, 3, 4, 5, 6, 7]), ("(&a)* a", "a", [1]), ("a b / a c", "ad", [])]:
            self.assertEqual(ends(Way.read(way), text), told, (way, text))

    def test_place(self):
        way = Way.read("a*")
        self.assertEqual(ends(way, "baa", 1), [0, 1, 2])
        self.assertEqual(ends(way=way, text="baa", place=3), [0])
        self.assertEqual(ends(way, "baa"), [0])

    def test_against_a_plain_walk(self):
        rng = random.Random(22)
        for _ in range(150):
            way = random_way(rng, rng.randint(1, 14), "ab")
            for text in all_texts("ab", 5):
                for place in range(len(text) + 1):
                    told = ends(way, text, place)
                    plain = sorted(end - place for end in plain_ends(way, text, place))
                    self.assertEqual(told, plain, (str(way), text, place))
                    taken = takes(way, text, place)
                    self.assertTrue(taken is None or taken in told)

    def test_long_texts(self):
        text = "ab" * 100
        self.assertEqual(ends(Way.read("(a b / a b a b a b)*"), text), list(range(0, 201, 2)))
        way = Row([Again(One()) for _ in range(31)])
        self.assertEqual(ends(way, text), list(range(201)))
        self.assertEqual(ends(Row([Maybe(Letter("a")), way]), text, 190), list(range(11)))
        self.assertEqual(ends(Unless(way), text), [])

    def test_returned_lists_are_new(self):
        way = Way.read("a*")
        ends(way, "aa").append(9)
        self.assertEqual(ends(way, "aa"), [0, 1, 2])


if __name__ == "__main__":
    unittest.main()
