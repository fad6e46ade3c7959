"""[4]: rules, sizes, gaps and comparing are exact with corners up to 10 ** 30 and any open sides."""

import unittest
from fractions import Fraction

from far_fences import FAR, RING, SHEARS
from plain import led, turn
from plain_rules import SMALL, STEEP, plain_rule, told

from growfences.compare import alike_sizes, are_alike, fewer_sizes, first_fewer, parting_size
from growfences.counts import side_count, stake_count
from growfences.fences import closed_fence, is_fence, shut_fence, turned_fence
from growfences.gaps import empty_sizes, has_stakes, last_empty, size_step, stake_sizes
from growfences.rules import counting_rule, part_periods, rule_count, rule_period, rule_through, series_row, side_sizes
from growfences.sizes import first_size, sizes_with, total_count

CHOICES = ([], [0], [9], [0, 9], [1, 2, 3], [0, 2, 4, 6, 8], list(range(10)))
SIZES = (1, 2, 59, 10 ** 9 + 7, FAR - 1, FAR)


def moved_pairs():
    """Small fences, each with those far out to which moves lead it."""
    pairs = []
    for number, fence in enumerate(SMALL[::6] + STEEP[::2]):
        for move in (SHEARS[number % 6], SHEARS[(number + 3) % 6]):
            pairs.append((fence, led(fence, move)))
    return pairs


def ring_rule(sides):
    """The rule of a far field with corners at stakes: by its area and by the stakes on its sides at the size 1."""
    area = Fraction(sum(turn(RING[0], RING[k - 1], RING[k]) for k in range(2, 10)), 2)
    steps = [side_count((1, RING, []), side, 1) - 1 for side in range(10)]
    linear = Fraction(sum(-step if side in sides else step for side, step in enumerate(steps)), 2)
    # At the size 0 each closed side and each corner between two closed sides still tells.
    closed = [side for side in range(10) if side not in sides]
    corners = sum((side + 1) % 10 in closed for side in closed)
    return [(area, linear, Fraction(1 - len(closed) + corners))]


class TestMovedFences(unittest.TestCase):
    def test_rules(self):
        for fence, other in moved_pairs():
            self.assertIs(is_fence(other), True)
            self.assertEqual(counting_rule(other), told(plain_rule(fence)), other)
            self.assertEqual(rule_period(other), rule_period(fence), other)
            self.assertEqual(part_periods(other), part_periods(fence), other)
            self.assertEqual(sorted(side_sizes(other)), sorted(side_sizes(fence)), other)
            self.assertEqual(series_row(closed_fence(other)), series_row(closed_fence(fence)), other)

    def test_sizes(self):
        for fence, other in moved_pairs():
            for number in (0, 1, 2, 6, 15, 10 ** 9, stake_count(fence, FAR)):
                self.assertEqual(sizes_with(other, number), sizes_with(fence, number), (other, number))
                self.assertEqual(first_size(other, number), first_size(fence, number), (other, number))
            for first, last in ((1, 5), (3, 100), (5, 4), (1, FAR), (FAR, FAR)):
                self.assertEqual(total_count(other, first, last), total_count(fence, first, last), other)

    def test_gaps(self):
        for fence, other in moved_pairs():
            for function in (size_step, stake_sizes, empty_sizes, last_empty):
                self.assertEqual(function(other), function(fence), (function, other))
            for size in SIZES:
                self.assertIs(has_stakes(other, size), has_stakes(fence, size))

    def test_comparing(self):
        pairs = moved_pairs()
        for (one, far_one), (two, far_two) in zip(pairs[::3], pairs[1::3]):
            self.assertIs(are_alike(one, far_one), True)
            self.assertIs(parting_size(far_one, one), None)
            for function in (are_alike, parting_size, alike_sizes, first_fewer, fewer_sizes):
                answer = function(one, two)
                self.assertEqual(function(far_one, far_two), answer, (function, far_one, far_two))
                self.assertEqual(function(one, far_two), answer, (function, one, far_two))


class TestFarFields(unittest.TestCase):
    def test_rules_with_corners_at_stakes(self):
        for sides in CHOICES:
            self.assertEqual(counting_rule((1, RING, sides)), told(ring_rule(sides)), sides)
            self.assertEqual(part_periods((1, RING, sides)), (1, 1, 1))
        self.assertEqual(side_sizes((1, RING, [3])), [1] * 10)

    def test_rules_tell_the_counts(self):
        for bottom in (2, 7, 29, 30):
            for sides in CHOICES:
                fence = (bottom, RING, sides)
                rule = counting_rule(fence)
                self.assertEqual(bottom % len(rule), 0)
                self.assertEqual(rule_period(fence), len(rule))
                for size in SIZES:
                    self.assertEqual(rule_count(rule, size), (stake_count(fence, size), 1), (fence, size))
                for size in (1, 2, 31):
                    self.assertEqual(rule_count(rule, -size), (stake_count(turned_fence(fence), size), 1))
                self.assertEqual(rule_through([stake_count(fence, size) for size in range(1, 3 * bottom + 1)]), rule)

    def test_series_have_no_number_below_0(self):
        for bottom in (1, 2, 29, 30):
            row = series_row((bottom, RING, []))
            self.assertEqual((len(row), row[0]), (3 * bottom, 1))
            self.assertGreaterEqual(min(row), 0)
            area = Fraction(sum(turn(RING[0], RING[k - 1], RING[k]) for k in range(2, 10)), 2 * bottom * bottom)
            self.assertEqual(sum(row), area * 2 * bottom * bottom * bottom)

    def test_sizes(self):
        for bottom in (1, 29, 30):
            for sides in CHOICES[::3]:
                fence = (bottom, RING, sides)
                for size in SIZES:
                    number = stake_count(fence, size)
                    self.assertEqual(sizes_with(fence, number), [(size, rule_period(fence), 1)])
                    self.assertEqual((first_size(fence, number), first_size(fence, number + 1)), (size, size + 1))
                    self.assertEqual(sizes_with(fence, number + 1), [])
                    self.assertEqual(total_count(fence, size, size), number)
                few = [stake_count(fence, size) for size in range(1, 8)]
                self.assertEqual([total_count(fence, 1, size) for size in (1, 2, 7)], [few[0], few[0] + few[1], sum(few)])
                last = total_count(fence, FAR - 6, FAR)
                self.assertEqual(last, sum(stake_count(fence, FAR - less) for less in range(7)))
                self.assertEqual(total_count(fence, 1, FAR) - total_count(fence, 1, FAR - 7), last)
                self.assertEqual(last + total_count(fence, 8, FAR - 7) + sum(few), total_count(fence, 1, FAR))
                self.assertGreater(first_size(fence, 10 ** 199), 10 ** 60)

    def test_gaps(self):
        for bottom in (1, 29, 30):
            for sides in CHOICES:
                fence = (bottom, RING, sides)
                answers = (size_step(fence), stake_sizes(fence), empty_sizes(fence), last_empty(fence))
                self.assertEqual(answers, (1, [1], [], 0))
                self.assertIs(has_stakes(fence, 1), True)
                self.assertIs(has_stakes(fence, FAR), True)

    def test_comparing(self):
        one, two = (29, RING, [1, 2]), (30, RING, [0])
        self.assertEqual((are_alike(one, two), parting_size(one, two), alike_sizes(one, two)), (False, 1, []))
        self.assertEqual((first_fewer(one, two), fewer_sizes(one, two)), (None, []))
        step = rule_period(one) * rule_period(two)
        self.assertEqual(first_fewer(two, one), 1)
        self.assertEqual(fewer_sizes(two, one), [(size, step, None) for size in range(1, step + 1)])
        self.assertEqual(step, 870)
        shut = shut_fence(one)
        fewer = [size for size in range(1, 88) if stake_count(shut, size) < stake_count(one, size)]
        self.assertEqual((first_fewer(shut, one), first_fewer(one, shut)), (fewer[0], None))
        line = (1, [(-FAR, -FAR), (FAR, FAR)], [0])
        self.assertEqual(fewer_sizes(two, line), [])
        self.assertEqual(parting_size((30, [(FAR, -FAR)], []), (29, [(-FAR, FAR)], [])), 3)

    def test_thin_fields_of_small_area(self):
        # Long, of the area 1 / 1800, and led far out: all gaps are those of the field it comes from.
        small = (30, [(0, 0), (1, 0), (0, 1)], [0, 1, 2])
        for move in SHEARS:
            other = led(small, move)
            self.assertEqual(last_empty(other), 60)
            self.assertEqual(stake_sizes(other), list(range(61, 122)))
            self.assertEqual(parting_size(other, (30, [(FAR, FAR - 1)], [])), 30)
            self.assertEqual(first_size(other, 10 ** 60), first_size(small, 10 ** 60))


if __name__ == "__main__":
    unittest.main()
