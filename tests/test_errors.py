"""[3] and the interface: the error classes, their bases and their fields."""

import unittest

from growfences import errors

WORDLESS = (
    "InvalidSize", "InvalidNumber", "InvalidSide", "InvalidPoint", "InvalidMove", "InvalidDirection",
    "InvalidLine", "InvalidName", "Impossible", "NothingToUndo", "InvalidCommand",
)
FIELDS = {
    "InvalidFence": "part", "InvalidPoints": "index", "InvalidRule": "index",
    "InvalidCounts": "index", "InvalidLooks": "index", "InvalidSyntax": "word",
}


class TestErrors(unittest.TestCase):
    def test_base(self):
        self.assertEqual(errors.FenceError.__bases__, (ValueError,))
        self.assertEqual(str(errors.FenceError("a word")), "a word")

    def test_errors_without_fields(self):
        for name in WORDLESS:
            with self.subTest(name=name):
                made = getattr(errors, name)("a word")
                self.assertEqual(made.__class__.__bases__, (errors.FenceError,))
                self.assertEqual(str(made), "a word")
                self.assertEqual(vars(made), {})

    def test_errors_with_fields(self):
        odd = [None, 0, 3, -1, True, "corners", "", [1], (), 10 ** 5000, 1.5, object()]
        for name, field in FIELDS.items():
            for value in odd:
                with self.subTest(name=name, kind=value.__class__):
                    kind = getattr(errors, name)
                    self.assertEqual(kind.__bases__, (errors.FenceError,))
                    self.assertIs(getattr(kind(value), field), value)
                    self.assertEqual(vars(kind(**{field: value})), {field: value})
                    self.assertIsInstance(str(kind(value)), str)

    def test_a_field_is_needed(self):
        for name in FIELDS:
            with self.subTest(name=name):
                with self.assertRaises(TypeError):
                    getattr(errors, name)()
                with self.assertRaises(TypeError):
                    getattr(errors, name)(1, 2)

    def test_no_other_classes(self):
        own = [name for name, value in vars(errors).items() if isinstance(value, type)]
        self.assertEqual(sorted(own), sorted(["FenceError", *WORDLESS, *FIELDS]))


if __name__ == "__main__":
    unittest.main()
