"""[4]: exact numbers at every size up to 10 ** 30, with corners up to 10 ** 30 and any open sides."""

import math
import random
import unittest
from fractions import Fraction

from far_fences import FAR, RING, SHEARS
from plain import count_by_rule, led, plain_hull, plain_sides, some_fences, turn

from growfences.counts import below_count, holds_stake, row_count, side_count, stake_count
from growfences.errors import InvalidNumber
from growfences.fences import is_fence
from growfences.places import nth_stake, row_stakes, stake_index, stake_rows

SIZES = (FAR, FAR - 1, FAR - 2, FAR // 7, 3 ** 40, 10 ** 9 + 7)


def pick_count(corners, sides, size):
    """The count of a field with corners at stakes, by its area and by the stakes on each side."""
    total = len(corners)
    double = sum(turn(corners[0], corners[k - 1], corners[k]) for k in range(2, total))
    steps = []
    for side, (x, y) in enumerate(corners):
        next_x, next_y = corners[(side + 1) % total]
        steps.append(size * math.gcd(next_x - x, next_y - y))
    inner = Fraction(size * size * double - sum(steps) + 2, 2)
    closed = [side for side in range(total) if side not in sides]
    whole = sum((side + 1) % total in closed for side in closed)
    return inner + sum(steps[side] - 1 for side in closed) + whole


def plain_row(fence, size, row):
    """The least x and the greatest x of a closed field in a row, by where the sides meet it."""
    bottom, corners, _ = fence
    meets = []
    for side, (x, y) in enumerate(corners):
        next_x, next_y = corners[(side + 1) % len(corners)]
        low, high = sorted([size * y, size * next_y])
        if low <= bottom * row <= high and low < high:
            part = Fraction(bottom * row - size * y, size * (next_y - y))
            meets.append(Fraction(size * x, bottom) + part * Fraction(size * (next_x - x), bottom))
    least, greatest = (math.ceil(min(meets)), math.floor(max(meets))) if meets else (1, 0)
    return (least, greatest) if least <= greatest else None


class TestCounts(unittest.TestCase):
    def test_counts_follow_the_rule_of_small_sizes(self):
        for fence in some_fences(31, 60, 5, (1, 2, 3, 4, 5, 6), (1, 2, 2, 3, 4, 6)):
            for size in SIZES:
                self.assertEqual(stake_count(fence, size), count_by_rule(fence, size), (fence, size))

    def test_fields_with_corners_at_stakes(self):
        self.assertEqual(plain_hull(RING), RING)
        for sides in ([], [0], [9], [0, 9], [1, 2, 3], [0, 2, 4, 6, 8], list(range(10))):
            for size in (1, 2, *SIZES):
                self.assertEqual(stake_count((1, RING, sides), size), pick_count(RING, sides, size), (sides, size))

    def test_moves_do_not_change_counts(self):
        for fence in some_fences(32, 40, 6, (1, 2, 3, 7, 30), (1, 2, 3, 4, 9)):
            for move in SHEARS:
                other = led(fence, move)
                self.assertIs(is_fence(other), True)
                for size in (1, 2, 30, FAR - 1, FAR):
                    self.assertEqual(stake_count(fence, size), stake_count(other, size), (fence, move, size))

    def test_far_fences_with_plain_counts(self):
        for fence in some_fences(33, 25, 4, (1, 2, 3), (1, 2, 3, 4)):
            for move in SHEARS:
                for size in (1, 2, 5, FAR):
                    self.assertEqual(stake_count(led(fence, move), size), count_by_rule(fence, size))

    def test_a_field_is_both_parts_of_a_cut(self):
        for bottom in (1, 7, 29, 30):
            for cut in range(2, 9):
                low, high = RING[:cut + 1], RING[cut:] + RING[:1]
                high = high[-1:] + high[:-1]
                for size in (1, 3, FAR - 1, FAR):
                    parts = stake_count((bottom, plain_hull(low), []), size)
                    parts += stake_count((bottom, plain_hull(high), []), size)
                    parts -= stake_count((bottom, sorted([RING[0], RING[cut]]), []), size)
                    self.assertEqual(stake_count((bottom, RING, []), size), parts, (bottom, cut, size))

    def test_open_sides_take_their_stakes(self):
        for bottom in (1, 2, 30):
            for size in (1, 30, FAR - 1, FAR):
                whole = stake_count((bottom, RING, []), size)
                for side in range(10):
                    left = stake_count((bottom, RING, [side]), size)
                    self.assertEqual(whole - left, side_count((bottom, RING, []), side, size))
                    one, two = sorted([RING[side], RING[(side + 1) % 10]])
                    self.assertEqual(whole - left, stake_count((bottom, [one, two], []), size))

    def test_sides(self):
        for side in range(10):
            (x, y), (next_x, next_y) = RING[side], RING[(side + 1) % 10]
            steps = math.gcd(next_x - x, next_y - y)
            for size in (1, 7, FAR):
                self.assertEqual(side_count((1, RING, [side]), side, size), size * steps + 1)
                self.assertEqual(side_count((30, RING, []), side, size - size % 30 or 30), (size // 30 or 1) * steps + 1)

    def test_stretches(self):
        for fence in some_fences(34, 80, 30, range(1, 31), (2,)):
            if len(fence[1]) == 2:
                sides = fence[2]
                for size in (FAR, FAR - 7):
                    ends = sum(side_count(fence, side, size) for side in sides)
                    self.assertEqual(stake_count(fence, size), stake_count(fence[:2] + ([],), size) - ends)
                    whole = (fence[0], fence[1], [])
                    self.assertEqual(stake_count(whole, size), count_by_rule(whole, size))


class TestRowsAndPlaces(unittest.TestCase):
    def setUp(self):
        source = random.Random(41)
        self.fences = []
        for bottom in (1, 2, 29, 30):
            self.fences.extend((bottom, RING, sides) for sides in ([], [0, 4], list(range(10))))
            for many in (3, 4, 7):
                points = [(source.randint(-FAR, FAR), source.randint(-FAR, FAR)) for _ in range(many)]
                corners = plain_hull(points)
                self.fences.append((bottom, corners, [side for side in plain_sides(corners) if source.random() < 0.5]))
            self.fences.append((bottom, [(-FAR, FAR), (FAR, 1 - FAR)], [1]))
            self.fences.append((bottom, [(-FAR, -FAR), (FAR, FAR)], [0]))
        self.fences.extend(led(fence, SHEARS[3]) for fence in some_fences(42, 12, 9, (1, 2, 30), (2, 3, 6)))

    def filled(self):
        """The fences and sizes with stakes; the others have neither places nor rows."""
        pairs = [(fence, size) for fence in self.fences for size in (7, FAR)]
        empty = [pair for pair in pairs if stake_count(*pair) == 0]
        self.assertTrue(0 < len(empty) < len(pairs) // 4)
        for fence, size in empty:
            self.assertIs(stake_rows(fence, size), None)
            self.assertEqual(below_count(fence, size, FAR * FAR), 0)
            with self.assertRaises(InvalidNumber):
                nth_stake(fence, size, 0)
        return [pair for pair in pairs if pair not in empty]

    def test_rows_of_closed_fields(self):
        source = random.Random(43)
        for bottom, corners, _ in self.fences:
            if len(corners) < 3:
                continue
            fence = (bottom, corners, [])
            for size in (1, 30, FAR):
                low, high = (size * end // bottom for end in (min(y for _, y in corners), max(y for _, y in corners)))
                rows = [low - 1, low, low + 1, high, high + 1, *(source.randint(low, high) for _ in range(20))]
                for row in rows:
                    ends = plain_row(fence, size, row)
                    self.assertEqual(row_stakes(fence, size, row), ends)
                    self.assertEqual(row_count(fence, size, row), ends[1] - ends[0] + 1 if ends else 0)

    def test_rows_add_up(self):
        source = random.Random(44)
        for fence, size in self.filled():
            least, greatest = stake_rows(fence, size)
            self.assertEqual(below_count(fence, size, least - 1), 0)
            self.assertEqual(below_count(fence, size, greatest), stake_count(fence, size))
            for row in (least, greatest, *(source.randint(least, greatest) for _ in range(8))):
                here = below_count(fence, size, row) - below_count(fence, size, row - 1)
                self.assertEqual(row_count(fence, size, row), here)

    def test_rows_upside_down(self):
        source = random.Random(45)
        for fence in self.fences:
            other = led(fence, (-1, 0, 0, -1, 0, 0))
            for size in (7, FAR - 1):
                total = stake_count(fence, size)
                for _ in range(8):
                    row = source.randint(-size * FAR // fence[0], size * FAR // fence[0])
                    rest = below_count(other, size, -row - 1)
                    self.assertEqual(below_count(fence, size, row) + rest, total)

    def test_places(self):
        source = random.Random(46)
        for fence, size in self.filled():
            total = stake_count(fence, size)
            for index in (0, total - 1, *(source.randrange(total) for _ in range(4))):
                x, y = stake = nth_stake(fence, size, index)
                self.assertIs(holds_stake(fence, size, stake), True)
                self.assertEqual(stake_index(fence, size, stake), index)
                below = below_count(fence, size, y - 1)
                self.assertTrue(below <= index < below + row_count(fence, size, y))
                least, greatest = row_stakes(fence, size, y)
                self.assertEqual((least + index - below, y), (x, y))
                for other in ((least - 1, y), (greatest + 1, y)):
                    self.assertIs(holds_stake(fence, size, other), False)

    def test_ends_of_the_rows(self):
        for fence, size in self.filled():
            least, greatest = stake_rows(fence, size)
            self.assertEqual(below_count(fence, size, least - 1), 0)
            self.assertEqual(below_count(fence, size, greatest), stake_count(fence, size))
            self.assertIsNot(row_stakes(fence, size, least), None)
            self.assertIsNot(row_stakes(fence, size, greatest), None)


if __name__ == "__main__":
    unittest.main()
