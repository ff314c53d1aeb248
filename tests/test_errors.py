"""[3]: the errors, their classes and their fields."""

import unittest

from waystaken.errors import BadName, BadText, Busy, NothingLeft, NotKept, TooMany, WayError

FIELDS = [(BadText, ("line", "place")), (BadName, ("name",)), (TooMany, ("what",)), (NotKept, ("guard",)),
          (NothingLeft, ()), (Busy, ())]
VALUES = [0, "a", None, [1, {}], ("fits", "x"), 10 ** 5000, object()]


class ErrorsTest(unittest.TestCase):
    def test_classes(self):
        self.assertEqual(WayError.__bases__, (ValueError,))
        for error, _ in FIELDS:
            self.assertEqual(error.__bases__, (WayError,))

    def test_fields_by_position(self):
        for error, names in FIELDS:
            for value in VALUES:
                raised = error(*[(value, name) for name in names])
                for name in names:
                    self.assertEqual(getattr(raised, name), (value, name))

    def test_fields_by_name(self):
        for error, names in FIELDS:
            for value in VALUES:
                raised = error(**{name: (value, name) for name in names})
                for name in names:
                    self.assertEqual(getattr(raised, name), (value, name))

    def test_fields_are_kept_as_they_are(self):
        guard = ["fits"]
        self.assertIs(NotKept(guard).guard, guard)
        self.assertIs(BadText(line=guard, place=guard).place, guard)

    def test_number_of_fields(self):
        for error, names in FIELDS[:4]:
            with self.assertRaises(TypeError):
                error(*range(len(names) + 1))
            with self.assertRaises(TypeError):
                error(*range(len(names) - 1))

    def test_raised(self):
        for error, names in FIELDS:
            with self.assertRaises(WayError) as caught:
                raise error(*names)
            self.assertIs(caught.exception.__class__, error)
            self.assertIsInstance(caught.exception, ValueError)


if __name__ == "__main__":
    unittest.main()
