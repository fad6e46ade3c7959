"""The examples of the definitions and of Parts 1 to 15, as the document writes them."""

import unittest

from example_runner import check_file


class TestExamples(unittest.TestCase):
    def test_definitions(self):
        self.assertEqual(check_file(self, "definitions.txt"), 3)

    def test_part_1(self):
        self.assertEqual(check_file(self, "part_1.txt"), 5)

    def test_part_2(self):
        self.assertEqual(check_file(self, "part_2.txt"), 5)

    def test_part_3(self):
        self.assertEqual(check_file(self, "part_3.txt"), 5)

    def test_part_4(self):
        self.assertEqual(check_file(self, "part_4.txt"), 7)

    def test_part_5(self):
        self.assertEqual(check_file(self, "part_5.txt"), 4)

    def test_part_6(self):
        self.assertEqual(check_file(self, "part_6.txt"), 3)

    def test_part_7(self):
        self.assertEqual(check_file(self, "part_7.txt"), 5)

    def test_part_8(self):
        self.assertEqual(check_file(self, "part_8.txt"), 6)

    def test_part_9(self):
        self.assertEqual(check_file(self, "part_9.txt"), 6)

    def test_part_10(self):
        self.assertEqual(check_file(self, "part_10.txt"), 4)

    def test_part_11(self):
        self.assertEqual(check_file(self, "part_11.txt"), 4)

    def test_part_12(self):
        self.assertEqual(check_file(self, "part_12.txt"), 7)

    def test_part_13(self):
        self.assertEqual(check_file(self, "part_13.txt"), 10)

    def test_part_14(self):
        self.assertEqual(check_file(self, "part_14.txt"), 8)

    def test_part_15(self):
        self.assertEqual(check_file(self, "part_15.txt"), 7)


if __name__ == "__main__":
    unittest.main()
