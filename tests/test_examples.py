"""The examples of the interface, as they stand in DOC.md."""

import os
import re
import unittest

# The examples of what is built so far, by the modules from which they import.
BUILT = ("waystaken.ways", "waystaken.reading", "waystaken.alltexts")
DOC = os.path.join(os.path.dirname(__file__), "..", "..", "shared", "DOC.md")

EXAMPLES = r"""
>>> from waystaken.ways import Again, Choice, Letter, Row, Unless, Way
>>> way = Row([Choice([Letter("a"), Letter("b")]), Unless(Again(Letter("c")))])
>>> (str(way), Way.read("(a/b)!(c)*") == way, len(way), str(way.at((0, 1))), str(Way.read("a b") | Way.read("a")))
('(a / b) !c*', True, 7, 'b', 'a b / a')

>>> from waystaken.reading import ends, far_takes, takes
>>> from waystaken.ways import Way
>>> way = Way.read("(a / a b) c")
>>> (takes(way, "abc"), ends(way, "abc"), takes(way, "ac"), far_takes(Way.read("(a b)* a"), [("ab", 10 ** 30), ("a", 1)]))
(None, [3], 2, 2000000000000000000000000000001)

>>> from waystaken.alltexts import apart, counted, lost
>>> from waystaken.ways import Way
>>> (apart("ab", Way.read("a*"), Way.read("a? a*")), apart("ab", Way.read("a / a a"), Way.read("a a / a")))
(None, 'aa')

>>> from waystaken.alltexts import counted, lost
>>> from waystaken.ways import Way
>>> (lost("abc", Way.read("(a / a b) c")), counted("ab", Way.read("a* b"), 3))
('abc', (1, 6, 1))

>>> from waystaken.alltexts import beyond, fails, fit_both, uncovered, whole
>>> from waystaken.ways import Way
>>> one, other = Way.read("a / a a"), Way.read("a a / b")
>>> (beyond("ab", one, other), uncovered("ab", one, other), fit_both("ab", one, other), whole("ab", other), fails("ab", other))
('a', 'b', 'aa', 'b', '')

>>> from waystaken.alltexts import lost_whole, whole_apart
>>> from waystaken.ways import Way
>>> one, other = Way.read("a / a a"), Way.read("a a / b")
>>> (whole_apart("ab", one, other), lost_whole("ab", one))
('a', 'aa')
"""


def blocks_of(text):
    """The examples in a text: the rows of each that begin with >>>, and the last row."""
    return re.findall(r"((?:>>> .*\n)+)(.+)\n", text)


class ExamplesTest(unittest.TestCase):
    def assert_example(self, rows, told):
        *before, last = [row.removeprefix(">>> ") for row in rows.splitlines()]
        names = {}
        exec("\n".join(before), names)
        self.assertEqual(repr(eval(last, names)), told)

    def test_examples(self):
        self.assertEqual(len(blocks_of(EXAMPLES)), 6)
        for rows, told in blocks_of(EXAMPLES):
            self.assert_example(rows, told)

    @unittest.skipUnless(os.path.exists(DOC), "the document does not stand beside the project")
    def test_examples_as_they_stand_in_the_document(self):
        with open(DOC, encoding="utf-8") as file:
            blocks = blocks_of(file.read())
        built = [block for block in blocks if block[0].split()[2] in BUILT]
        self.assertEqual(len(built), 6)
        for rows, told in built:
            self.assert_example(rows, told)


if __name__ == "__main__":
    unittest.main()
