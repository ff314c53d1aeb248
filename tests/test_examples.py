"""The examples of the interface, as they stand in DOC.md."""

import os
import re
import unittest

from waystaken.errors import WayError

DOC = os.path.join(os.path.dirname(__file__), "..", "..", "shared", "DOC.md")

EXAMPLES = r"""
>>> from waystaken.ways import Again, Choice, Letter, Row, Unless, Way
>>> way = Row([Choice([Letter("a"), Letter("b")]), Unless(Again(Letter("c")))])
>>> (str(way), Way.read("(a/b)!(c)*") == way, len(way), str(way.at((0, 1))), str(Way.read("a b") | Way.read("a")))
('(a / b) !c*', True, 7, 'b', 'a b / a')

>>> from waystaken.reading import ends, far_takes, takes
>>> from waystaken.ways import Way
>>> way = Way.read("(a / a b) c")
>>> (takes(way, "abc"), ends(way, "abc"), takes(way, "ac"), far_takes(Way.read("(a b)* a"), [("ab", 10 ** 30), ("a", 1)]))
(None, [3], 2, 2000000000000000000000000000001)

>>> from waystaken.alltexts import apart, counted, lost
>>> from waystaken.ways import Way
>>> (apart("ab", Way.read("a*"), Way.read("a? a*")), apart("ab", Way.read("a / a a"), Way.read("a a / a")))
(None, 'aa')

>>> from waystaken.alltexts import counted, lost
>>> from waystaken.ways import Way
>>> (lost("abc", Way.read("(a / a b) c")), counted("ab", Way.read("a* b"), 3))
('abc', (1, 6, 1))

>>> from waystaken.alltexts import beyond, fails, fit_both, uncovered, whole
>>> from waystaken.ways import Way
>>> one, other = Way.read("a / a a"), Way.read("a a / b")
>>> (beyond("ab", one, other), uncovered("ab", one, other), fit_both("ab", one, other), whole("ab", other), fails("ab", other))
('a', 'b', 'aa', 'b', '')

>>> from waystaken.alltexts import lost_whole, whole_apart
>>> from waystaken.ways import Way
>>> one, other = Way.read("a / a a"), Way.read("a a / b")
>>> (whole_apart("ab", one, other), lost_whole("ab", one))
('a', 'aa')

>>> from waystaken.choices import enough, orders, shorter, taken_ways
>>> from waystaken.ways import Way
>>> way = Way.read("a / a b / b")
>>> (taken_ways("ab", way), orders("ab", way), enough("ab", way), shorter("ab", way))
([((), 0, 'a'), ((), 1, None), ((), 2, 'b')], [(0, 1, 2), (0, 2, 1), (2, 0, 1)], [(0, 1, 2), (0, 2)], 'ab')

>>> from waystaken.seeing import Endless, look, settles
>>> from waystaken.ways import Way
>>> (look("ab", Way.read("a*")).need, isinstance(look("ab", Way.read("a* b / a")), Endless), settles("ab", Way.read("a b")).need)
(1, True, 2)

>>> from waystaken.seeing import Look, is_look, is_settled
>>> from waystaken.ways import Way
>>> (is_look(Way.read("a*"), Look(1, "a", "aa")), is_look(Way.read("a*"), Look(1, "a", "")), is_settled(Way.read("a b"), Look(2, "ab", "aa")))
(True, False, True)

>>> from waystaken.books import Book
>>> book = Book.read("sign = a / b\nword = <sign> <sign>*")
>>> (len(book), str(book.way("word")), "text" in book)
(2, '(a / b) (a / b)*', False)

>>> from waystaken.books import Book
>>> Book.read("x = a\ny = <x> )")
raises BadText
"""


def blocks_of(text):
    """The examples in a text: the rows of each that begin with >>>, and the last row."""
    return re.findall(r"((?:>>> .*\n)+)(.+)\n", text)


class ExamplesTest(unittest.TestCase):
    def assert_example(self, rows, told):
        *before, last = [row.removeprefix(">>> ") for row in rows.splitlines()]
        names = {}
        exec("\n".join(before), names)
        if told.startswith("raises "):
            with self.assertRaises(WayError) as caught:
                eval(last, names)
            self.assertEqual(caught.exception.__class__.__name__, told.removeprefix("raises "))
        else:
            self.assertEqual(repr(eval(last, names)), told)

    def test_examples(self):
        self.assertEqual(len(blocks_of(EXAMPLES)), 11)
        for rows, told in blocks_of(EXAMPLES):
            self.assert_example(rows, told)

    @unittest.skipUnless(os.path.exists(DOC), "the document does not stand beside the project")
    def test_examples_as_they_stand_in_the_document(self):
        with open(DOC, encoding="utf-8") as file:
            blocks = blocks_of(file.read())
        self.assertTrue(blocks)
        for rows, told in blocks:
            self.assert_example(rows, told)


if __name__ == "__main__":
    unittest.main()
