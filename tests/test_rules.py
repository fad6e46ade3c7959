"""[7], [8], [13] and [14]: rules, against plain counts for small fences and at the edges the document names."""

import itertools
import math
import random
import unittest
from fractions import Fraction

from plain import all_sides
from plain_rules import (
    SHORT, SMALL, STEEP, TEN, lean_field, least_rule, plain_counts, plain_lowest, plain_rule, plain_value, told,
)

from growfences.counts import stake_count
from growfences.errors import InvalidFence
from growfences.fences import closed_fence, fence_area, fence_kind, turned_fence
from growfences.rules import (
    counting_rule, part_periods, rule_count, rule_period, rule_through, series_row, side_sizes,
)

FAR = 10 ** 30
LOW = (2, [(0, 0), (2, 0), (0, 1)], [])
ONE, NONE = (1, 1), (0, 1)


def repeats(values, many):
    """Whether a list, told again and again, is the same behind so many values."""
    return all(value == values[(index + many) % len(values)] for index, value in enumerate(values))


def plain_side_size(fence, side):
    """The least size with a stake on the line of a side, place by place over one step along the line."""
    bottom, corners, _ = fence
    (x, y), (next_x, next_y) = corners[side], corners[(side + 1) % len(corners)]
    part = math.gcd(next_x - x, next_y - y)
    across, up = (next_x - x) // part, (next_y - y) // part
    for size in itertools.count(1):
        value = Fraction(size * (across * y - up * x), bottom)
        places = [(a, (value + up * a) / across) for a in range(abs(across))] if across else [(0, -value / up)]
        if any(b.denominator == 1 for _, b in places):
            return size


def plain_series(counts, bottom, times):
    """The numbers of (1 + count(1) * z + ..) times (1 - z ** bottom) ** times, as far as the counts tell them."""
    factor = {0: 1}
    for _ in range(times):
        longer = dict(factor)
        for power, number in factor.items():
            longer[power + bottom] = longer.get(power + bottom, 0) - number
        factor = longer
    row = [1] + counts
    return [sum(number * row[at - power] for power, number in factor.items() if power <= at) for at in range(len(row))]


class TestRulesOfFences(unittest.TestCase):
    def test_rules_of_small_fences(self):
        periods = set()
        for fence in SMALL + STEEP:
            rule, bottom = plain_rule(fence), plain_lowest(fence)
            self.assertEqual(counting_rule(fence), told(rule), fence)
            self.assertEqual(rule_period(fence), len(rule), fence)
            self.assertEqual(bottom % rule_period(fence), 0, fence)
            periods.add((fence_kind(fence), bottom, len(rule)))
        for kind in ("point", "stretch", "field"):
            self.assertTrue({(kind, 1, 1), (kind, 2, 2), (kind, 29, 29), (kind, 30, 30)} <= periods, kind)
        self.assertTrue({("field", 4, 1), ("field", 6, 2), ("field", 12, 6), ("field", 30, 15)} <= periods)

    def test_values_are_the_counts(self):
        for fence in SMALL + STEEP:
            rule = counting_rule(fence)
            for size, count in enumerate(plain_counts(fence, 4 * plain_lowest(fence)), 1):
                self.assertEqual(rule_count(rule, size), (count, 1), (fence, size))
            for size in (FAR, FAR - 1, FAR // 7, 10 ** 9 + 7):
                self.assertEqual(rule_count(rule, size), (stake_count(fence, size), 1), (fence, size))

    def test_values_below_0(self):
        for fence in SMALL + STEEP:
            rule, sign = counting_rule(fence), -1 if fence_kind(fence) == "stretch" else 1
            for size, count in enumerate(plain_counts(turned_fence(fence), 2 * plain_lowest(fence)), 1):
                self.assertEqual(rule_count(rule, -size), (sign * count, 1), (fence, size))

    def test_part_periods(self):
        unlike = set()
        for fence in SMALL + STEEP:
            rule = plain_rule(fence)
            parts = tuple(
                next(many for many in range(1, len(rule) + 1) if repeats([row[part] for row in rule], many))
                for part in range(3)
            )
            self.assertEqual(part_periods(fence), parts, fence)
            self.assertEqual(math.lcm(*parts), rule_period(fence), fence)
            unlike.add(tuple(part == 1 for part in parts))
        self.assertTrue({(True, True, True), (True, True, False), (True, False, False)} <= unlike)
        self.assertIs(part_periods(LOW).__class__, tuple)

    def test_parts_that_repeat_sooner_than_the_rule(self):
        # A level stretch at the height 1 / 2 and with ends at thirds has rows for halves and for thirds.
        fence = (6, [(2, 3), (6, 3)], [])
        rule = plain_rule(fence)
        self.assertEqual(counting_rule(fence), told(rule))
        self.assertEqual((rule_period(fence), part_periods(fence)), (6, (1, 2, 6)))

    def test_squares_are_areas(self):
        for fence in SMALL + STEEP:
            self.assertEqual({row[0] for row in counting_rule(fence)}, {fence_area(fence)}, fence)

    def test_linear_parts_repeat_behind_the_side_sizes(self):
        for fence in SMALL + STEEP:
            if fence_kind(fence) == "field":
                self.assertEqual(math.lcm(*side_sizes(fence)) % part_periods(fence)[1], 0, fence)

    def test_periods_below_the_lowest_bottom(self):
        for bottom in range(1, 31):
            rule = [(Fraction(bottom - 1, 2), Fraction(bottom + 1, 2), Fraction(1))]
            if bottom > 1:
                fence = (bottom, lean_field(bottom), [])
                self.assertEqual(counting_rule(fence), told(rule))
                self.assertEqual((rule_period(fence), part_periods(fence)), (1, (1, 1, 1)))
        for fence, period in SHORT:
            self.assertEqual((plain_lowest(fence), rule_period(fence)), (fence[0], period))

    def test_bottoms_that_are_not_the_lowest(self):
        for bottom, corners, sides in SMALL:
            for factor in range(2, min(30 // bottom, 7) + 1):
                other = (bottom * factor, [(factor * x, factor * y) for x, y in corners], sides)
                fence = (bottom, corners, sides)
                for function in (counting_rule, rule_period, part_periods, side_sizes):
                    self.assertEqual(function(other), function(fence), (function, other))
                self.assertEqual(series_row(closed_fence(other)), series_row(closed_fence(fence)), other)
        self.assertEqual(counting_rule((30, [(30, -60)], [])), [(NONE, NONE, ONE)])
        self.assertEqual([rule_period((30, [(15, 0), (45, 0)], sides)) for sides in ([], [0], [0, 1])], [2, 1, 2])

    def test_points(self):
        for bottom in (1, 2, 7, 29, 30):
            rule = counting_rule((bottom, [(1, -1)], []))
            self.assertEqual(rule, [(NONE, NONE, ONE)] + [(NONE, NONE, NONE)] * (bottom - 1))
            self.assertEqual(part_periods((bottom, [(1, -1)], [])), (1, 1, bottom))

    def test_open_sides(self):
        square = [(0, 0), (1, 0), (1, 1), (0, 1)]
        for fence in all_sides(1, square):
            self.assertEqual(counting_rule(fence), told(plain_rule(fence)))
        self.assertEqual(counting_rule((1, square, [0, 1, 2, 3])), [(ONE, (-2, 1), ONE)])
        self.assertEqual(counting_rule((1, square, [0])), [(ONE, ONE, NONE)])

    def test_corners_at_the_ends_of_the_range(self):
        square = [(-FAR, -FAR), (FAR, -FAR), (FAR, FAR), (-FAR, FAR)]
        self.assertEqual(counting_rule((1, square, [])), [((4 * FAR * FAR, 1), (4 * FAR, 1), ONE)])
        self.assertEqual(counting_rule((1, square, [0, 1, 2, 3])), [((4 * FAR * FAR, 1), (-4 * FAR, 1), ONE)])
        self.assertEqual(counting_rule((1, [(-FAR, -FAR), (FAR, FAR)], [0, 1])), [(NONE, (2 * FAR, 1), (-1, 1))])
        self.assertEqual(counting_rule((1, [(FAR, -FAR)], [])), [(NONE, NONE, ONE)])
        self.assertEqual(rule_period((30, [(-FAR + 1, FAR)], [])), 30)
        self.assertEqual(series_row((1, square, [])), [1, 4 * FAR * FAR + 4 * FAR - 2, 4 * FAR * FAR - 4 * FAR + 1])


class TestRuleCount(unittest.TestCase):
    def some_rules(self):
        source = random.Random(71)
        for rows in (1, 2, 3, 7, 29, 30):
            for digits in (1, 3, 199):
                rule = []
                for _ in range(rows):
                    parts = [Fraction(source.randint(-10 ** digits, 10 ** digits), source.randint(1, 10 ** digits)) for _ in range(3)]
                    rule.append(tuple(parts))
                yield rule

    def test_values_at_any_integer(self):
        sizes = [*range(-61, 62), 10 ** 40 - 1, 1 - 10 ** 40, 10 ** 39 + 7, -(10 ** 39) - 13]
        for rule in self.some_rules():
            for size in sizes:
                value = plain_value(rule, size)
                self.assertEqual(rule_count(told(rule), size), (value.numerator, value.denominator))

    def test_longest_fractions(self):
        long = 10 ** 200 - 1
        rule = [((long, 10 ** 199), (-long, 10 ** 200 - 3), (1, long)), ((0, 1), (-long, 1), (long - 1, long))]
        for size in (0, 1, 2, -1, 10 ** 40 - 1, 1 - 10 ** 40):
            value = sum(Fraction(*part) * size ** power for part, power in zip(rule[size % 2], (2, 1, 0)))
            self.assertEqual(rule_count(rule, size), (value.numerator, value.denominator))

    def test_the_row_is_that_of_the_remainder(self):
        for rows in (1, 2, 30):
            rule = [(NONE, NONE, (row, 1)) for row in range(rows)]
            for size in range(-2 * rows, 2 * rows + 1):
                self.assertEqual(rule_count(rule, size), (size % rows, 1))

    def test_answers_are_in_lowest_terms(self):
        half = [((1, 2), (1, 2), NONE)]
        self.assertEqual([rule_count(half, size) for size in (0, 1, 2, -1, -2)], [(0, 1), (1, 1), (3, 1), (0, 1), (1, 1)])
        self.assertEqual(rule_count([(NONE, (1, 6), (1, 3))], 2), (2, 3))
        self.assertEqual(rule_count([(NONE, (-1, 6), (1, 3))], 2), (0, 1))
        self.assertEqual(rule_count([(NONE, (-1, 6), (1, 3))], 5), (-1, 2))

    def test_at_0_a_closed_fence_has_one(self):
        for fence in SMALL + STEEP:
            self.assertEqual(rule_count(counting_rule(closed_fence(fence)), 0), (1, 1), fence)


class TestSideSizes(unittest.TestCase):
    def test_small_fences(self):
        for fence in SMALL + STEEP:
            bottom, corners, _ = fence
            if fence_kind(fence) == "point":
                sizes = []
            elif fence_kind(fence) == "stretch":
                sizes = [plain_counts((bottom, [corner], []), 30).index(1) + 1 for corner in corners]
            else:
                sizes = [plain_side_size(fence, side) for side in range(len(corners))]
            self.assertEqual(side_sizes(fence), sizes, fence)

    def test_the_line_can_have_a_stake_where_the_side_has_none(self):
        fence = (30, [(0, 1), (15, 1), (15, 16)], [])
        self.assertEqual(side_sizes(fence), [30, 2, 30])
        self.assertEqual(side_sizes((30, [(0, 0), (1, 0), (0, 1)], [])), [1, 30, 1])
        self.assertEqual(side_sizes((30, [(1, 1), (2, 2)], [0])), [30, 15])
        self.assertEqual(side_sizes((7, [(3, 3)], [])), [])

    def test_far_corners(self):
        self.assertEqual(side_sizes((30, [(-FAR, 1 - FAR), (FAR, 1 - FAR), (FAR - 1, FAR)], [])), [10, 30, 30])
        self.assertEqual(side_sizes((30, [(-FAR, FAR), (FAR, -FAR)], [1])), [3, 3])
        self.assertEqual(len(side_sizes((29, TEN, [0, 1, 2]))), 10)


class TestRuleThrough(unittest.TestCase):
    def check_counts(self, counts):
        rows = len(counts) // 3
        divisors = [many for many in range(1, rows + 1) if rows % many == 0]
        rule = least_rule(counts, divisors)
        self.assertEqual(rule_through(counts), told(rule))
        return len(rule)

    def test_any_counts(self):
        source = random.Random(72)
        for rows in range(1, 31):
            for reach in (1, 5, 10 ** 9):
                counts = [source.randint(-reach, reach) for _ in range(3 * rows)]
                self.check_counts(counts)

    def test_counts_with_fewer_rows(self):
        source = random.Random(73)
        for rows in (1, 2, 3, 4, 6, 12, 24, 28, 30):
            for many in (many for many in range(1, rows + 1) if rows % many == 0):
                rule = [(source.randint(-9, 9), source.randint(-9, 9), source.randint(-9, 9)) for _ in range(many)]
                counts = [int(plain_value(rule, size)) for size in range(1, 3 * rows + 1)]
                self.assertLessEqual(self.check_counts(counts), many)
                counts[-1] += 1
                self.assertEqual(self.check_counts(counts), rows)

    def test_fewer_rows_that_are_no_divisor(self):
        for rows, many in ((3, 2), (5, 2), (30, 4), (30, 29), (29, 7)):
            counts = [size % many for size in range(1, 3 * rows + 1)]
            self.assertEqual(self.check_counts(counts), rows)

    def test_counts_of_fences(self):
        for fence in SMALL + STEEP:
            counts = plain_counts(fence, 3 * plain_lowest(fence))
            self.assertEqual(rule_through(counts), counting_rule(fence), fence)
            if len(counts) <= 45:
                longer = plain_counts(fence, 4 * plain_lowest(fence))
                bottom = plain_lowest(fence)
                rule = plain_rule(fence)
                longer += [int(plain_value(rule, size)) for size in range(4 * bottom + 1, 6 * bottom + 1)]
                self.assertEqual(rule_through(longer), counting_rule(fence), fence)

    def test_three_and_90_counts(self):
        self.assertEqual(rule_through([7, 7, 7]), [(NONE, NONE, (7, 1))])
        self.assertEqual(rule_through([0, 0, 0]), [(NONE, NONE, NONE)])
        self.assertEqual(rule_through([1, 4, 9]), [(ONE, NONE, NONE)])
        self.assertEqual(rule_through([-1, 2, 0]), [((-5, 2), (21, 2), (-9, 1))])
        self.assertEqual(rule_through([size * size for size in range(1, 91)]), [(ONE, NONE, NONE)])
        self.assertEqual(len(rule_through([0] * 89 + [1])), 30)
        self.assertEqual(rule_through([0] * 30 + [1] + [0] * 59)[1], ((-1, 900), (31, 450), (-61, 900)))

    def test_counts_of_200_digits(self):
        long = 10 ** 200 - 1
        self.assertEqual(rule_through([long, -long, long]), [((2 * long, 1), (-8 * long, 1), (7 * long, 1))])
        source = random.Random(74)
        for rows in (1, 2, 30):
            counts = [source.randint(-long, long) for _ in range(3 * rows)]
            rule = rule_through(counts)
            self.assertEqual(len(rule), rows)
            self.assertEqual([rule_count(rule, size) for size in range(1, 3 * rows + 1)], [(count, 1) for count in counts])
        self.assertEqual(rule_through([long * size for size in range(1, 91)]), [(NONE, (long, 1), NONE)])

    def test_answers_are_rules(self):
        for rule in (rule_through([1, 2, 4]), counting_rule(LOW), rule_through([5] * 90)):
            self.assertIs(rule.__class__, list)
            self.assertEqual({row.__class__ for row in rule}, {tuple})
            self.assertEqual({part.__class__ for row in rule for part in row}, {tuple})
            self.assertEqual({number.__class__ for row in rule for part in row for number in part}, {int})


class TestSeriesRow(unittest.TestCase):
    def test_closed_fences(self):
        for fence in SMALL + STEEP:
            fence = closed_fence(fence)
            bottom, times = plain_lowest(fence), min(len(fence[1]), 3)
            row = plain_series(plain_counts(fence, 4 * bottom), bottom, times)
            self.assertEqual(series_row(fence), row[:times * bottom], fence)
            self.assertFalse(any(row[times * bottom:]), fence)
            self.assertGreaterEqual(min(series_row(fence)), 0, fence)

    def test_lengths(self):
        for bottom in (1, 2, 29, 30):
            self.assertEqual(series_row((bottom, [(1, 0)], [])), [1] + [0] * (bottom - 1))
            self.assertEqual(len(series_row((bottom, [(0, 0), (1, 0)], []))), 2 * bottom)
            self.assertEqual(len(series_row((bottom, [(0, 0), (1, 0), (0, 1)], []))), 3 * bottom)

    def test_fences_that_are_not_closed(self):
        for corners in ([(0, 0), (1, 0)], [(0, 0), (1, 0), (0, 1)]):
            for fence in all_sides(2, corners)[1:]:
                with self.assertRaises(InvalidFence) as caught:
                    series_row(fence)
                self.assertEqual(caught.exception.part, "sides")


if __name__ == "__main__":
    unittest.main()
