"""The examples of the definitions and of Parts 1 to 3, as the document writes them."""

import unittest

from example_runner import check_file


class TestExamples(unittest.TestCase):
    def test_definitions(self):
        self.assertEqual(check_file(self, "definitions.txt"), 3)

    def test_part_1(self):
        self.assertEqual(check_file(self, "part_1.txt"), 5)

    def test_part_2(self):
        self.assertEqual(check_file(self, "part_2.txt"), 5)

    def test_part_3(self):
        self.assertEqual(check_file(self, "part_3.txt"), 5)


if __name__ == "__main__":
    unittest.main()
