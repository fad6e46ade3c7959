"""The facts behind [9], as far as the counts tell of them."""

import itertools
import math
import unittest
from fractions import Fraction

from plain import led, some_fences, value_through

from growfences.counts import holds_stake, row_count, side_count, stake_count
from growfences.fences import fence_kind, lowest_fence, shut_fence, turned_fence
from growfences.places import nth_stake

FAR = 10 ** 30
FENCES = some_fences(51, 90, 7, (1, 2, 3, 4, 5, 6, 12, 30), (1, 2, 2, 3, 3, 4, 5, 8))
MOVES = ((1, 1, 0, 1, 0, 0), (0, 1, 1, 0, 3, -3), (-1, 0, 0, 1, 2, 5), (2, 1, 1, 1, 0, 7), (0, -1, 1, 0, 0, 0), (5, 2, -3, -1, 1, 1))


def count_at(fence, size):
    """The value at any integer, 0 or below too, of the rule that the counts follow."""
    bottom = lowest_fence(fence)[0]
    first = (size - 1) % bottom + 1
    places = [first, first + bottom, first + 2 * bottom]
    return value_through([(place, stake_count(fence, place)) for place in places], size)


def least_width(corners):
    """The least width of a field with the bottom 1 and corners near 0, over all directions that can have it."""
    best = None
    for a, b in itertools.product(range(-72, 73), range(73)):
        if (a, b) != (0, 0):
            values = [a * x + b * y for x, y in corners]
            width = max(values) - min(values)
            best = width if best is None else min(best, width)
    return best


def line_size(bottom, corners, side):
    """The least size at which there is a stake on the line through a grown side."""
    (x, y), (next_x, next_y) = corners[side], corners[(side + 1) % len(corners)]
    part = math.gcd(next_x - x, next_y - y)
    value = (next_x - x) // part * y - (next_y - y) // part * x
    return next(size for size in range(1, 31) if size * value % bottom == 0)


def linear_part(fence, bottom, first):
    """The linear part of the row of a size, from the counts at three sizes with the same remainder."""
    a, b, c = [stake_count(fence, first + step * bottom) for step in range(3)]
    square = Fraction(c - 2 * b + a, 2 * bottom * bottom)
    return Fraction(b - a, bottom) - square * (2 * first + bottom)


class TestFacts(unittest.TestCase):
    def test_one_the_period_divides_the_lowest_bottom(self):
        for fence in FENCES:
            bottom = lowest_fence(fence)[0]
            for first in (*range(1, 2 * bottom), FAR - 4 * bottom):
                a, b, c, d = [stake_count(fence, first + step * bottom) for step in range(4)]
                self.assertEqual(d - 3 * c + 3 * b - a, 0, (fence, first))

    def test_two_the_rule_below_0(self):
        for fence in FENCES:
            sign = -1 if fence_kind(fence) == "stretch" else 1
            for size in (1, 2, 3, 5, 12, 30, 31):
                self.assertEqual(count_at(fence, -size), sign * stake_count(turned_fence(fence), size), (fence, size))

    def test_three_sizes_with_stakes_add_up(self):
        for fence in FENCES:
            sizes = [size for size in range(1, 25) if stake_count(fence, size) > 0]
            for one in sizes:
                for two in sizes:
                    self.assertGreater(stake_count(fence, one + two), 0, (fence, one, two))

    def test_four_a_field_has_an_inner_stake(self):
        for fence in FENCES:
            bottom = lowest_fence(fence)[0]
            if fence_kind(fence) == "field":
                for size in (3 * bottom, 3 * bottom + 1, 4 * bottom - 1, FAR):
                    self.assertGreater(stake_count(shut_fence(fence), size), 0, (fence, size))

    def test_four_a_stretch_has_an_inner_stake(self):
        for fence in FENCES:
            bottom = lowest_fence(fence)[0]
            sizes = [size for size in range(1, 3 * bottom) if stake_count(fence, size) > 0]
            if fence_kind(fence) == "stretch":
                step = math.gcd(*sizes)
                for times in range(bottom // step + 1, bottom // step + 6):
                    self.assertGreater(stake_count(shut_fence(fence), times * step), 0, (fence, times * step))

    def test_four_a_point_has_its_multiples(self):
        for fence in FENCES:
            bottom = lowest_fence(fence)[0]
            if fence_kind(fence) == "point":
                for size in (*range(1, 3 * bottom + 1), FAR, FAR - FAR % bottom):
                    self.assertEqual(stake_count(fence, size), int(size % bottom == 0), (fence, size))

    def test_four_a_wide_field_has_an_inner_stake(self):
        fields = [fence for fence in some_fences(52, 40, 3, (1, 2, 3, 4, 5), (3, 3, 4, 6)) if len(fence[1]) > 2]
        for fence in fields:
            least = Fraction(least_width(fence[1]), fence[0])
            first = math.ceil(Fraction(13, 6) / least)
            for size in (first, first + 1, first + 2):
                self.assertGreater(stake_count(shut_fence(fence), size), 0, (fence, size))

    def test_five_counts_differ_soon_or_never(self):
        fences = some_fences(53, 150, 2, (1, 2, 3), (1, 2, 3, 3, 4))
        alike = 0
        for one, two in itertools.combinations(fences, 2):
            last = 3 * math.lcm(lowest_fence(one)[0], lowest_fence(two)[0])
            if all(stake_count(one, size) == stake_count(two, size) for size in range(1, last + 1)):
                alike += 1
                for size in (*range(last + 1, last + 8), FAR - 1, FAR):
                    self.assertEqual(stake_count(one, size), stake_count(two, size), (one, two, size))
        self.assertGreater(alike, 20)

    def test_six_the_linear_parts(self):
        for fence in FENCES:
            if fence_kind(fence) == "field":
                bottom, corners, _ = lowest_fence(fence)
                repeat = math.lcm(*[line_size(bottom, corners, side) for side in range(len(corners))])
                for first in range(1, bottom + 1):
                    linear = linear_part(fence, bottom, first)
                    self.assertEqual(linear, linear_part(fence, bottom, first + repeat), (fence, first))

    def test_seven_moves_do_not_change_counts(self):
        for fence in FENCES:
            for move in MOVES:
                a, b, c, d, e, f = move
                other = led(fence, move)
                for size in (1, 2, 7, 30, FAR):
                    self.assertEqual(stake_count(fence, size), stake_count(other, size), (fence, move, size))
                for index in range(min(5, stake_count(fence, 7))):
                    x, y = nth_stake(fence, 7, index)
                    spot = (a * x + b * y + 7 * e, c * x + d * y + 7 * f)
                    self.assertIs(holds_stake(other, 7, spot), True)
                    self.assertGreater(row_count(other, 7, spot[1]), 0)

    def test_the_same_fence_over_another_bottom(self):
        for bottom, corners, sides in FENCES:
            for factor in range(2, 30 // bottom + 1):
                other = (bottom * factor, [(factor * x, factor * y) for x, y in corners], sides)
                for size in (1, 2, 7, FAR):
                    self.assertEqual(stake_count(other, size), stake_count((bottom, corners, sides), size))
                    for side in range(len(corners) if len(corners) > 1 else 0):
                        there = side_count(other, side, size)
                        self.assertEqual(there, side_count((bottom, corners, sides), side, size))


if __name__ == "__main__":
    unittest.main()
