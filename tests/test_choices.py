"""[40], [41]: the ways of choices."""

import itertools
import random
import unittest

from tests.oracle import all_texts, first, paths_of, plain_taken, plain_takes, random_way
from waystaken.alltexts import apart
from waystaken.choices import enough, orders, shorter, taken_ways
from waystaken.errors import BadName, TooMany
from waystaken.ways import Again, Ahead, Choice, Letter, Maybe, One, Row, Unless, Way

read = Way.read

# How long the texts are that are gone through one by one, by the number of signs.
LONGEST = {1: 10, 2: 7, 3: 5}


def random_choice(rng, many, parts, letters):
    """A Choice of so many ways with so many parts."""
    cuts = [0, *sorted(rng.sample(range(1, parts - 1), many - 1)), parts - 1]
    return Choice([random_way(rng, high - low, letters) for low, high in zip(cuts, cuts[1:])])


def first_end(ways, text):
    """What the first of these ways takes that fits, None if none does."""
    taken = [plain_takes(way, text) for way in ways]
    return next((many for many in taken if many is not None), None)


def without_dead_ways(way, dead, path=()):
    """The way without the dead ways of all choices of which some way is taken."""
    if isinstance(way, (Row, Choice)):
        left = [without_dead_ways(part, dead, (*path, index)) for index, part in enumerate(way.ways)
                if isinstance(way, Row) or (path, index) not in dead]
        if not left:
            left = [without_dead_ways(part, dead, (*path, index)) for index, part in enumerate(way.ways)]
        return left[0] if len(left) == 1 else way.__class__(left)
    if isinstance(way, (Again, Maybe, Ahead, Unless)):
        return way.__class__(without_dead_ways(way.part, dead, (*path, 0)))
    return way


class TakenTest(unittest.TestCase):
    def assert_taken(self, signs, way, longest):
        """The texts told are those that plain reading finds, as far as it goes."""
        firsts = {}
        for text in all_texts(signs, longest):
            for key in plain_taken(way, text):
                firsts.setdefault(key, text)
        told = taken_ways(signs, way)
        choices = sorted(path for path, part in paths_of(way) if isinstance(part, Choice))
        self.assertEqual([(path, index) for path, index, _ in told],
                         [(path, index) for path in choices for index in range(len(way.at(path).ways))])
        for path, index, text in told:
            case = (signs, str(way), path, index)
            if text is not None and len(text) > longest:
                self.assertIn((path, index), plain_taken(way, text), case)
                self.assertNotIn((path, index), firsts, case)
            else:
                self.assertEqual(text, firsts.get((path, index)), case)

    def test_by_hand(self):
        for signs, way, texts in [
                ("ab", "a / b", ["a", "b"]), ("ba", "a / b", ["a", "b"]), ("ab", "a / a b", ["a", None]),
                ("ab", "a b / a", ["ab", "a"]), ("ab", "() / a", ["", None]), ("ab", ". / a / !.", ["a", None, ""]),
                ("ba", ". / a / !.", ["b", None, ""]), ("ab", "a / c", ["a", None]), ("abc", "a / c", ["a", "c"]),
                ("ab", "a b / a a / a", ["ab", "aa", "a"]), ("ab", "a* / b", ["", None]), ("a", "a a a / a", ["aaa", "a"]),
                ("ab", "a? b / a / b", ["b", "a", None])]:
            told = taken_ways(signs, read(way))
            self.assertEqual(told, [((), index, text) for index, text in enumerate(texts)], (signs, way))

    def test_rounds(self):
        # b is come to in a second round, and so is the way that takes nothing.
        self.assertEqual(taken_ways("ab", read("(a / b)*")), [((0,), 0, "a"), ((0,), 1, "b")])
        self.assertEqual(taken_ways("ab", read("a (a / b / ())*")),
                         [((1, 0), 0, "aa"), ((1, 0), 1, "ab"), ((1, 0), 2, "a")])
        self.assertEqual(taken_ways("ab", read("(a (b / a) / () / b)*")),
                         [((0,), 0, "aa"), ((0,), 1, ""), ((0,), 2, None), ((0, 0, 1), 0, "ab"), ((0, 0, 1), 1, "aa")])

    def test_last_round(self):
        # In the last round, which fails, one has come to a and taken it.
        self.assertEqual(taken_ways("ab", read("((a / b) b)*")), [((0, 0), 0, "a"), ((0, 0), 1, "b")])
        self.assertEqual(taken_ways("ab", read("(b (a / b) b)* b b")), [((0, 0, 1), 0, "ba"), ((0, 0, 1), 1, "bb")])
        # The last round takes nothing.
        self.assertEqual(taken_ways("ab", read("(!a (a / !b / .))*")),
                         [((0, 1), 0, None), ((0, 1), 1, ""), ((0, 1), 2, "b")])

    def test_looks(self):
        self.assertEqual(taken_ways("ab", read("&(a / b)")), [((0,), 0, "a"), ((0,), 1, "b")])
        self.assertEqual(taken_ways("ab", read("!(a / b) .")), [((0, 0), 0, "a"), ((0, 0), 1, "b")])
        self.assertEqual(taken_ways("ab", read("&a (a / b)")), [((1,), 0, "a"), ((1,), 1, None)])
        self.assertEqual(taken_ways("ab", read("a !(a (a / b) a)")), [((1, 0, 1), 0, "aaa"), ((1, 0, 1), 1, "aab")])

    def test_what_is_around_may_fail(self):
        self.assertEqual(taken_ways("ab", read("(a / b) c")), [((0,), 0, "a"), ((0,), 1, "b")])
        self.assertEqual(taken_ways("ab", read("((a / b) !()) / a")),
                         [((), 0, None), ((), 1, "a"), ((0, 0), 0, "a"), ((0, 0), 1, "b")])
        self.assertEqual(taken_ways("ab", read("((a / b) c)?")), [((0, 0), 0, "a"), ((0, 0), 1, "b")])
        self.assertEqual(taken_ways("ab", read("c (a / b)")), [((1,), 0, None), ((1,), 1, None)])

    def test_choices_in_choices(self):
        self.assertEqual(taken_ways("ab", read("(a / b) / (b / a a)")),
                         [((), 0, "a"), ((), 1, None), ((0,), 0, "a"), ((0,), 1, "b"), ((1,), 0, None), ((1,), 1, None)])
        self.assertEqual(taken_ways("abc", read("a b / (a / c) b")),
                         [((), 0, "ab"), ((), 1, "cb"), ((1, 0), 0, "a"), ((1, 0), 1, "c")])

    def test_paths_in_the_order_of_tuples(self):
        told = taken_ways("ab", read("(a / b)? ((a / b) / a)"))
        self.assertEqual([path for path, index, _ in told if index == 0], [(0, 0), (1,), (1, 0)])

    def test_no_choice(self):
        self.assertEqual(taken_ways("ab", read("a b*")), [])

    def test_small_ways_against_plain_reading(self):
        single = ["a", "b", ".", "()", "a b", "a*", "!a", "a?"]
        around = ["({})", "({})*", "(({}) a)*", "!(({}) b) .", "&({})*", "(({}) a)? b", "a* ({})", "({}) / b",
                  "(b / ({}))*", "(({})* b)*"]
        for one, other in itertools.product(single, single):
            for text in around:
                way = read(text.format(f"{one} / {other}"))
                if len(way) <= 10:
                    self.assert_taken("ab", way, 6)

    def test_random_ways_against_plain_reading(self):
        rng = random.Random(40)
        many = 0
        while many < 250:
            signs = rng.choice(["a", "ab", "ba", "abc", "cab"])
            way = random_way(rng, rng.choice([5, 7, 9, 10, 10]), rng.choice([signs, "abc"]))
            if taken_ways(signs, way):
                many += 1
                self.assert_taken(signs, way, LONGEST[len(signs)])

    def test_dead_ways_left_out(self):
        rng = random.Random(41)
        many = 0
        while many < 60:
            way = random_way(rng, rng.choice([5, 6, 7, 8, 9, 10]), "ab")
            told = taken_ways("ab", way)
            dead = [(path, index) for path, index, text in told if text is None]
            left = without_dead_ways(way, dead)
            if left != way:
                many += 1
                for text in all_texts("ab", 7):
                    self.assertEqual(plain_takes(left, text), plain_takes(way, text), (str(way), str(left)))
                if len(way) + len(left) <= 10:
                    self.assertIsNone(apart("ab", way, left))


class OrdersTest(unittest.TestCase):
    def assert_alike(self, told, rows, signs, choice):
        """Those of the rows are told that are alike to the choice, as far as short texts show it."""
        self.assertEqual(told, [row for row in rows if row in told])
        texts = list(all_texts(signs, LONGEST[len(signs)]))
        ends = {text: first_end(choice.ways, text) for text in texts}
        for row in rows:
            ways = [choice.ways[index] for index in row]
            alike = all(first_end(ways, text) == ends[text] for text in texts)
            self.assertEqual(row in told, alike, (signs, str(choice), row))

    def assert_all(self, signs, choice):
        indexes = range(len(choice.ways))
        self.assert_alike(orders(signs, choice), list(itertools.permutations(indexes)), signs, choice)
        sets = [row for many in indexes for row in itertools.combinations(indexes, many + 1)]
        self.assert_alike(enough(signs, choice), sorted(sets), signs, choice)

    def assert_by_apart(self, signs, choice):
        """The same, asked by apart."""
        indexes = range(len(choice.ways))
        for row in itertools.permutations(indexes):
            alike = apart(signs, choice, Choice([choice.ways[index] for index in row])) is None
            self.assertEqual(row in orders(signs, choice), alike, (str(choice), row))
        for many in indexes:
            for row in itertools.combinations(indexes, many + 1):
                ways = [choice.ways[index] for index in row]
                alike = apart(signs, choice, ways[0] if many == 0 else Choice(ways)) is None
                self.assertEqual(row in enough(signs, choice), alike, (str(choice), row))

    def test_by_hand(self):
        for way, order, sets in [
                ("a / b", [(0, 1), (1, 0)], [(0, 1)]), ("a / a", [(0, 1), (1, 0)], [(0,), (0, 1), (1,)]),
                ("a / a a", [(0, 1)], [(0,), (0, 1)]), ("a a / a", [(0, 1)], [(0, 1)]),
                ("a* / a / b", [(0, 1, 2), (0, 2, 1)], [(0,), (0, 1), (0, 1, 2), (0, 2)]),
                ("c / a", [(0, 1), (1, 0)], [(0, 1), (1,)]), ("c / !()", [(0, 1), (1, 0)], [(0,), (0, 1), (1,)]),
                (". / a / b", [(0, 1, 2), (0, 2, 1), (1, 0, 2), (1, 2, 0), (2, 0, 1), (2, 1, 0)],
                 [(0,), (0, 1), (0, 1, 2), (0, 2), (1, 2)])]:
            self.assertEqual(orders("ab", read(way)), order, way)
            self.assertEqual(enough("ab", read(way)), sets, way)

    def test_a_way_that_stands_ahead_of_others_frees_them(self):
        # Behind the first way the others never count, so their order is free,
        # but only there.
        self.assertEqual(orders("ab", read("() / a / a a")), [(0, 1, 2), (0, 2, 1)])
        # One of the two equal ways must stand ahead of a a, whichever it is.
        self.assertEqual(orders("ab", read("a / a / a a")), [(0, 1, 2), (0, 2, 1), (1, 0, 2), (1, 2, 0)])

    def test_signs_count(self):
        self.assertEqual(orders("a", read("a / b / a")), list(itertools.permutations(range(3))))
        self.assertEqual(enough("a", read("a / b / a")), [(0,), (0, 1), (0, 1, 2), (0, 2), (1, 2), (2,)])
        self.assertEqual(enough("ab", read("a / b / a")), [(0, 1), (0, 1, 2), (1, 2)])

    def test_five_ways(self):
        choice = read("a / b / a a / c / .")
        self.assert_all("abc", choice)
        self.assertEqual(orders("abc", read("a / a / a / a / a")), list(itertools.permutations(range(5))))
        self.assertEqual(len(enough("abc", read("a / a / a / a / a"))), 31)
        self.assertEqual(orders("abc", read("() / a / a / a / a")),
                         [(0, *row) for row in itertools.permutations(range(1, 5))])

    def test_small_choices_by_apart(self):
        for ways in itertools.product(["a", "b", ".", "()", "a*", "!a", "c"], repeat=3):
            choice = read(" / ".join(ways))
            if 2 * len(choice) <= 10:
                self.assert_by_apart("ab", choice)

    def test_random_choices_by_apart(self):
        rng = random.Random(42)
        for _ in range(150):
            signs = rng.choice(["a", "ab", "abc"])
            self.assert_by_apart(signs, random_choice(rng, rng.choice([2, 2, 3, 4]), 5, "abc"))

    def test_random_choices_against_plain_reading(self):
        rng = random.Random(43)
        for _ in range(150):
            signs = rng.choice(["a", "ab", "ba", "abc"])
            many = rng.choice([2, 3, 4, 5])
            choice = random_choice(rng, many, rng.randint(many + 2, 10), rng.choice([signs, "abc"]))
            self.assert_all(signs, choice)

    def test_neighbours_lead_from_each_order_to_each_other_one(self):
        rng = random.Random(44)
        for _ in range(100):
            told = orders("ab", random_choice(rng, rng.choice([3, 4, 5]), rng.randint(7, 10), "ab"))
            met = {told[0]}
            todo = [told[0]]
            while todo:
                row = todo.pop()
                for place in range(len(row) - 1):
                    other = (*row[:place], row[place + 1], row[place], *row[place + 2:])
                    if other in told and other not in met:
                        met.add(other)
                        todo.append(other)
            self.assertEqual(sorted(met), told)

    def test_returned_lists_are_new(self):
        choice = read("a / b")
        for function in (orders, enough, taken_ways):
            told = function("ab", choice)
            function("ab", choice).append(9)
            self.assertEqual(function("ab", choice), told)


class ShorterTest(unittest.TestCase):
    def test_by_hand(self):
        for signs, way, text in [
                ("ab", "a / a b / b", "ab"), ("ab", "a b / a", None), ("ab", "a / b", None), ("ab", "() / .", "a"),
                ("ba", "() / .", "b"), ("ab", "a / b / a*", "aa"), ("ab", "a* / .", "b"), ("ab", "a* / b / a a", "b"),
                ("ab", "!() / a", None), ("ab", "a / c c", None), ("abc", "c / c c", "cc"), ("ab", "() / !a", None),
                ("ab", "a b / a / a .", "aa"), ("ab", "a a / a / a a b", "aab"), ("ab", "a / . . . . .", "aaaaa"),
                ("ba", ". / &(a b) . .", "ab"), ("ab", "a / a a &b", "aab"),
                ("ba", "a &(. .) / a a", "aab"), ("ab", "b / a !. / a*", None), ("ab", "b / a . / a*", "aaa")]:
            self.assertEqual(shorter(signs, read(way)), text, (signs, way))

    def test_against_all_short_texts(self):
        rng = random.Random(45)
        for _ in range(300):
            signs = rng.choice(["a", "ab", "ba", "abc", "cab"])
            many = rng.choice([2, 2, 3, 4, 5])
            choice = random_choice(rng, many, rng.randint(many + 1, 10), rng.choice([signs, "abc"]))

            def shows(text):
                taken = [plain_takes(way, text) for way in choice.ways]
                fitting = [many for many in taken if many is not None]
                return fitting != [] and max(fitting) > fitting[0]

            told = shorter(signs, choice)
            plain = first(signs, LONGEST[len(signs)], shows)
            if plain is None and told is not None:
                self.assertGreater(len(told), LONGEST[len(signs)])
                self.assertTrue(shows(told), (signs, str(choice), told))
            else:
                self.assertEqual(told, plain, (signs, str(choice)))


class ErrorsTest(unittest.TestCase):
    def test_too_many_ways(self):
        six = Choice([Letter("a") for _ in range(6)])
        self.assertEqual(len(taken_ways("ab", six)), 6)
        for function in (orders, enough, shorter):
            with self.assertRaises(TooMany) as caught:
                function("ab", six)
            self.assertEqual(caught.exception.what, "ways")
            function("ab", Choice([Letter("a") for _ in range(5)]))

    def test_too_many_parts_ahead_of_too_many_ways(self):
        for ways in (Choice([Letter("a") for _ in range(10)]), Choice([read("a a a a"), read("a a a a")])):
            for function in (orders, enough, shorter, taken_ways):
                with self.assertRaises(TooMany) as caught:
                    function("ab", ways)
                self.assertEqual(caught.exception.what, "parts")
        with self.assertRaises(TooMany) as caught:
            orders("ab", Choice([Letter("a") for _ in range(9)]))
        self.assertEqual(caught.exception.what, "ways")

    def test_calls_first_of_all(self):
        for text in ("a / <x> / <y>", "a / a / a / a / a / <x>", "a / a / a / a / a / a / a / a / a / a / !<x>"):
            for function in (orders, enough, shorter, taken_ways):
                with self.assertRaises(BadName) as caught:
                    function("ab", read(text))
                self.assertEqual(caught.exception.name, "x")

    def test_arguments_by_name(self):
        choice = Choice((Letter("a"), One()))
        self.assertEqual(taken_ways(way=choice, signs="ba"), [((), 0, "a"), ((), 1, "b")])
        for function in (orders, enough, shorter):
            self.assertEqual(function(choice=choice, signs="ab"), function("ab", choice))


if __name__ == "__main__":
    unittest.main()
