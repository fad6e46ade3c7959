"""The sums and remainders below the counts, against plain ones."""

import itertools
import unittest
from fractions import Fraction
from math import ceil, floor, gcd

from growfences.lattice import floor_sum, greatest_to, inverse_of, least_from


class TestLattice(unittest.TestCase):
    def test_floor_sum(self):
        for many, slope, start, step in itertools.product(range(6), range(-9, 10), range(-9, 10), range(1, 8)):
            plain = sum((slope * place + start) // step for place in range(many))
            self.assertEqual(floor_sum(many, slope, start, step), plain)

    def test_floor_sum_of_large_numbers(self):
        far = 10 ** 60
        self.assertEqual(floor_sum(far, 1, 0, 1), far * (far - 1) // 2)
        self.assertEqual(floor_sum(2 * far, 1, 0, 2), far * (far - 1))
        self.assertEqual(floor_sum(far + 1, -1, 0, far), -far)
        self.assertEqual(floor_sum(far, far - 1, 0, far), (far - 1) * (far - 2) // 2)

    def test_least_and_greatest(self):
        for top, bottom in itertools.product(range(-20, 21), range(1, 8)):
            part = Fraction(top, bottom)
            self.assertEqual(least_from(top, bottom, False), ceil(part))
            self.assertEqual(least_from(top, bottom, True), floor(part) + 1)
            self.assertEqual(greatest_to(top, bottom, False), floor(part))
            self.assertEqual(greatest_to(top, bottom, True), ceil(part) - 1)

    def test_inverse(self):
        for number, modulus in itertools.product(range(-30, 31), range(1, 31)):
            if gcd(number, modulus) == 1:
                inverse = inverse_of(number, modulus)
                self.assertTrue(0 <= inverse < modulus)
                self.assertEqual(number * inverse % modulus, 1 % modulus)


if __name__ == "__main__":
    unittest.main()
