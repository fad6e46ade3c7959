"""[9] and [20]: widths, numbers of lines and thin directions, against plain ways and at the edges that are named."""

import itertools
import math
import random
import unittest
from fractions import Fraction

from far_fences import FAR, RING, SHEARS
from plain import all_sides, led, plain_hull, plain_stakes, some_fences
from plain_rules import SMALL, TEN

from growfences.counts import stake_count
from growfences.errors import Impossible
from growfences.fences import shut_fence
from growfences.moves import inverse_move, moved_fence
from growfences.widths import fence_width, line_number, thin_directions

FORTY = 10 ** 40 - 1
WHOLE = (1, [(0, 0), (1, 0), (0, 1)], [])
SQUARE = (1, [(0, 0), (1, 0), (1, 1), (0, 1)], [])
DIAMOND = (1, [(-1, 0), (0, -1), (1, 0), (0, 1)], [])
SIX = (1, [(-1, -1), (0, -1), (1, 0), (1, 1), (0, 1), (-1, 0)], [])
DIRECTIONS = [(0, 1), (1, 0), (1, 1), (-1, 1), (0, -3), (2, -4), (5, 7), (-6, 0), (FORTY, -FORTY), (-FORTY, 1), (0, FORTY)]
GREAT = SHEARS + ((10 ** 29, 10 ** 29 + 1, 1, 1, 0, 0), (1, 3 ** 60, 0, 1, 0, 0), (2 ** 85 + 1, 2 ** 40, 2 ** 45, 1, 0, 0))


def plain_values(fence, direction):
    bottom, corners, _ = fence
    return [Fraction(direction[0] * x + direction[1] * y, bottom) for x, y in corners]


def plain_width(fence, direction):
    values = plain_values(fence, direction)
    return max(values) - min(values)


def told(number):
    number = Fraction(number)
    return (number.numerator, number.denominator)


def signed(direction):
    """The greater one of a direction and its opposite."""
    return max(direction, (-direction[0], -direction[1]))


def wide_enough(corners, width):
    """A bound for both numbers of a direction in which these corners are not wider than a width.

    In such a direction (a, b) the values along two steps between corners are at most the width, and a and b
    are sums of both values times numbers of the steps, through the area that the steps span.
    """
    steps = [(x - corners[0][0], y - corners[0][1]) for x, y in corners[1:]]
    area = max(abs(one[0] * two[1] - one[1] * two[0]) for one, two in itertools.combinations(steps, 2))
    reach = max(max(abs(x), abs(y)) for x, y in steps)
    return 2 * width * reach // area


def plain_thin(fence):
    """The least width and all directions that have it, by all directions of a box that is wide enough."""
    bottom, corners, _ = fence
    bound = wide_enough(corners, min(plain_width((1, corners, []), direction) for direction in ((0, 1), (1, 0))))
    best, found = None, []
    for a, b in itertools.product(range(0, bound + 1), range(-bound, bound + 1)):
        if (a, b) > (0, 0) and math.gcd(a, b) == 1:
            values = [a * x + b * y for x, y in corners]
            width = max(values) - min(values)
            if best is None or width < best:
                best, found = width, []
            if width == best:
                found.append((a, b))
    return (told(Fraction(best, bottom)), sorted(found))


def fields_of(fences):
    return [fence for fence in fences if len(fence[1]) > 2]


def led_direction(direction, move):
    """The direction that has, for a led fence, the width that a direction has for the fence."""
    a, b, c, d, _, _ = inverse_move(move)
    x, y = direction
    return signed((x * a + y * c, x * b + y * d))


class TestFenceWidth(unittest.TestCase):
    def test_against_plain_widths(self):
        for fence in SMALL + [(30, TEN, [1]), (29, RING, []), (1, RING, [0, 1])]:
            for direction in DIRECTIONS:
                self.assertEqual(fence_width(fence, direction), told(plain_width(fence, direction)), (fence, direction))

    def test_opposite_directions_and_common_divisors(self):
        for fence in SMALL[::5]:
            for a, b in DIRECTIONS:
                self.assertEqual(fence_width(fence, (a, b)), fence_width(fence, (-a, -b)))
                for times in (2, -7, 10 ** 20):
                    top, bottom = fence_width(fence, (a, b))
                    self.assertEqual(fence_width(fence, (times * a, times * b)), told(Fraction(abs(times) * top, bottom)))

    def test_open_sides_play_no_part(self):
        for corners in ([(1, 2)], [(0, 1), (3, 5)], [(0, 0), (2, 0), (0, 1)]):
            for fence in all_sides(6, corners):
                for direction in DIRECTIONS:
                    self.assertEqual(fence_width(fence, direction), fence_width((6, corners, []), direction))

    def test_points_and_stretches(self):
        self.assertEqual(fence_width((30, [(FAR, -FAR)], []), (FORTY, FORTY)), (0, 1))
        self.assertEqual(fence_width((2, [(0, 1), (2, 1)], [0]), (0, 1)), (0, 1))
        self.assertEqual(fence_width((2, [(0, 1), (2, 1)], [0]), (3, -5)), (3, 1))
        self.assertEqual(fence_width((4, [(0, 1), (2, 5)], [0]), (2, -1)), (0, 1))
        self.assertEqual(fence_width((4, [(0, 1), (2, 5)], [0]), (1, 0)), (1, 2))

    def test_far_corners(self):
        square = (30, [(-FAR, -FAR), (FAR, -FAR), (FAR, FAR), (-FAR, FAR)], [])
        self.assertEqual(fence_width(square, (1, 0)), (FAR // 5, 3))
        self.assertEqual(fence_width(square, (FORTY, -FORTY)), told(Fraction(4 * FAR * FORTY, 30)))
        self.assertEqual(fence_width((1, square[1], []), (FORTY, 1)), (2 * FAR * (FORTY + 1), 1))


class TestLineNumber(unittest.TestCase):
    def test_by_going_through_the_integers(self):
        for fence in SMALL[::2]:
            for direction in ((0, 1), (1, 0), (1, -2), (2, 4), (-3, 3), (0, -5), (7, -5)):
                for size in (1, 2, 3, 5, 6, 7):
                    values = [size * value for value in plain_values(fence, direction)]
                    first, last = math.floor(min(values)) - 1, math.ceil(max(values)) + 1
                    met = [k for k in range(first, last + 1) if min(values) <= k <= max(values)]
                    self.assertEqual(line_number(fence, size, direction), len(met), (fence, size, direction))

    def test_lines_with_stakes_are_met(self):
        for fence in SMALL[::9]:
            for a, b in ((0, 1), (1, 1), (2, -3)):
                for size in (1, 2, 4, 30):
                    if stake_count(fence, size) > 0:
                        self.assertGreater(line_number(fence, size, (a, b)), 0)

    def test_points(self):
        point = (6, [(3, 2)], [])
        self.assertEqual([line_number(point, size, (1, 0)) for size in range(1, 7)], [0, 1, 0, 1, 0, 1])
        self.assertEqual([line_number(point, size, (0, 1)) for size in range(1, 7)], [0, 0, 1, 0, 0, 1])
        self.assertEqual([line_number(point, size, (2, 3)) for size in (1, FAR)], [1, 1])
        self.assertEqual([line_number(point, size, (FORTY, 0)) for size in (FAR - 1, FAR)], [0, 1])

    def test_far_sizes(self):
        for fence in SMALL[::11] + [(30, RING, [2]), (29, TEN, []), (30, [(-FAR, FAR)], []), (7, [(-FAR, 1 - FAR), (FAR, FAR)], [1])]:
            for direction in DIRECTIONS:
                for size in (1, FAR - 1, FAR):
                    values = [size * value for value in plain_values(fence, direction)]
                    number = math.floor(max(values)) - math.ceil(min(values)) + 1
                    self.assertEqual(line_number(fence, size, direction), number)

    def test_rows_of_the_grown_fence(self):
        for fence in fields_of(SMALL)[::6]:
            for size in (1, 5):
                rows = {y for _, y in plain_stakes(fence, size)}
                self.assertLessEqual(len(rows), line_number(fence, size, (0, 1)))
        self.assertEqual(line_number(SQUARE, FAR, (0, 1)), FAR + 1)
        self.assertEqual(line_number(shut_fence(SQUARE), FAR, (0, 1)), FAR + 1)
        self.assertEqual(line_number(SQUARE, FAR, (0, 2)), 2 * FAR + 1)


class TestThinDirections(unittest.TestCase):
    def test_against_all_directions_of_a_box(self):
        fields = some_fences(91, 120, 3, (1, 2, 3, 30), (3, 3, 4, 5, 6, 9)) + fields_of(SMALL)[::3]
        numbers = set()
        for field in fields_of(fields):
            answer = thin_directions(field)
            self.assertEqual(answer, plain_thin(field), field)
            numbers.add(len(answer[1]))
        self.assertGreaterEqual(numbers, {1, 2, 3})

    def test_all_small_fields(self):
        grid = [(x, y) for x in range(3) for y in range(3)]
        numbers = {}
        for many in (3, 4, 5, 6):
            for chosen in itertools.combinations(grid, many):
                corners = plain_hull(chosen)
                if len(corners) == many:
                    answer = thin_directions((2, corners, []))
                    self.assertEqual(answer, plain_thin((2, corners, [])), corners)
                    numbers[len(answer[1])] = corners
        self.assertEqual(sorted(numbers), [1, 2, 3, 4])

    def test_one_to_four_directions(self):
        self.assertEqual(thin_directions(DIAMOND), ((2, 1), [(0, 1), (1, -1), (1, 0), (1, 1)]))
        self.assertEqual(thin_directions(SQUARE), ((1, 1), [(0, 1), (1, 0)]))
        self.assertEqual(thin_directions(WHOLE), ((1, 1), [(0, 1), (1, 0), (1, 1)]))
        self.assertEqual(thin_directions(SIX), ((2, 1), [(0, 1), (1, -1), (1, 0)]))
        self.assertEqual(thin_directions((30, [(0, 0), (2, 0), (0, 1)], [])), ((1, 30), [(0, 1)]))
        self.assertEqual(thin_directions((1, [(0, 0), (30, 1), (7, 2)], [])), plain_thin((1, [(0, 0), (30, 1), (7, 2)], [])))

    def test_fields_led_by_great_moves(self):
        fields = [WHOLE, SQUARE, DIAMOND, SIX, (2, [(0, 0), (4, 0), (2, 1)], []), (30, TEN, [1]), (7, [(0, 0), (5, 1), (2, 3)], [])]
        fields += fields_of(some_fences(92, 25, 4, (1, 2, 30), (3, 4, 6)))
        for field in fields:
            width, directions = thin_directions(field)
            for move in GREAT:
                there = led(field, move)
                if max(abs(number) for corner in there[1] for number in corner) > FAR:
                    continue
                expected = sorted(led_direction(direction, move) for direction in directions)
                self.assertEqual(thin_directions(there), (width, expected), (field, move))

    def test_the_least_of_all_small_changes(self):
        # No direction near the thin ones, and none of the plain ones, is thinner.
        for move in GREAT:
            for field in (WHOLE, DIAMOND, SIX):
                there = led(field, move)
                if max(abs(number) for corner in there[1] for number in corner) <= FAR:
                    width, directions = thin_directions(there)
                    for a, b in directions:
                        self.assertEqual(fence_width(there, (a, b)), width)
                        self.assertEqual(math.gcd(a, b), 1)
                        self.assertGreater((a, b), (0, 0))
                        for x, y in ((1, 0), (0, 1), (1, 1), (-1, 1), (FORTY, 1)):
                            if (a + x, b + y) != (0, 0) and signed((a + x, b + y)) not in directions:
                                self.assertGreater(Fraction(*fence_width(there, (a + x, b + y))), Fraction(*width))

    def test_far_fields_by_a_box(self):
        source = random.Random(93)
        checked = 0
        for number in range(60):
            points = [(source.randint(-FAR, FAR), source.randint(-FAR, FAR)) for _ in range(source.choice((3, 4, 10)))]
            corners = plain_hull(points)
            width = min(plain_width((1, corners, []), direction) for direction in ((0, 1), (1, 0)))
            if 3 <= len(corners) <= 10 and wide_enough(corners, width) <= 40:
                checked += 1
                field = (source.choice((1, 2, 29, 30)), corners, [number % 3])
                self.assertEqual(thin_directions(field), plain_thin(field), field)
        self.assertGreater(checked, 30)

    def test_ten_far_corners(self):
        for bottom in (1, 30):
            for sides in ([], [0, 5], list(range(10))):
                self.assertEqual(thin_directions((bottom, RING, sides)), plain_thin((bottom, RING, sides)))

    def test_long_thin_fields(self):
        for top in (FAR, FAR - 1, 3 ** 62, 2 ** 99):
            thin = (1, [(0, 0), (top, 1), (top - 1, 1)], [])
            self.assertEqual(thin_directions(thin), ((1, 1), [(0, 1), (1, -top), (1, 1 - top)]))
            flat = (1, [(0, 0), (top, 0), (0, 1)], [])
            self.assertEqual(thin_directions(flat), ((1, 1), [(0, 1)]))
            self.assertEqual(thin_directions((1, [(0, 0), (1, 0), (0, top)], [])), ((1, 1), [(1, 0)]))
        # Steps whose slope has a long chain of remainders.
        one, two = 1, 1
        while two <= FAR // 2:
            one, two = two, one + two
        field = (1, plain_hull([(0, 0), (two, one), (one, two - one)]), [])
        width, directions = thin_directions(field)
        self.assertEqual((width, len(directions)), ((1, 1), 3))
        for direction in directions:
            self.assertEqual(fence_width(field, direction), (1, 1))

    def test_widths_and_bottoms(self):
        for field in fields_of(SMALL)[::4]:
            width, directions = thin_directions(field)
            for factor in range(2, 30 // field[0] + 1):
                other = (field[0] * factor, [(factor * x, factor * y) for x, y in field[1]], field[2])
                self.assertEqual(thin_directions(other), (width, directions))
            self.assertEqual(thin_directions(shut_fence(field)), (width, directions))
            self.assertEqual([fence_width(field, direction) for direction in directions], [width] * len(directions))

    def test_wide_fields_have_inner_stakes(self):
        for field in fields_of(SMALL)[::4]:
            top, bottom = thin_directions(field)[0]
            first = -(-13 * bottom // (6 * top))
            for size in (first, first + 1, FAR):
                self.assertGreater(stake_count(shut_fence(field), size), 0)

    def test_moves_of_the_package_agree(self):
        for field in (WHOLE, DIAMOND):
            there = moved_fence(field, SHEARS[3])
            self.assertEqual(thin_directions(there)[0], thin_directions(field)[0])

    def test_only_fields(self):
        for fence in ((1, [(0, 0)], []), (2, [(0, 1), (2, 1)], []), (2, [(0, 1), (2, 1)], [0, 1])):
            with self.assertRaises(Impossible):
                thin_directions(fence)

    def test_kinds_of_answers(self):
        answer = thin_directions(DIAMOND)
        self.assertEqual([part.__class__ for part in answer], [tuple, list])
        self.assertEqual({part.__class__ for part in answer[1]}, {tuple})
        self.assertIs(line_number(WHOLE, 3, (1, 0)).__class__, int)
        self.assertIs(fence_width(WHOLE, (1, 0)).__class__, tuple)


if __name__ == "__main__":
    unittest.main()
