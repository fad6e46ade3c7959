"""[22]: closed fields cut along a line, against plain counts of both parts and at the edges that are named."""

import itertools
import random
import unittest
from fractions import Fraction

from far_fences import FAR, RING, SHEARS
from plain import led, plain_holds, plain_hull, plain_stakes, some_fences, value_through
from plain_rules import SMALL, TEN, plain_lowest

from growfences.counts import below_count, stake_count
from growfences.cuts import cut_counts, cut_fence
from growfences.errors import Impossible, InvalidFence
from growfences.fences import are_same, fence_area, is_fence, lowest_fence
from growfences.moves import inverse_move

FORTY = 10 ** 40 - 1
FIELD = (1, [(0, 0), (2, 0), (0, 2)], [])
SQUARE = (1, [(0, 0), (1, 0), (1, 1), (0, 1)], [])
LINES = [
    line for line in itertools.product((-2, -1, 0, 1, 3), (-1, 0, 2), (-3, -1, 0, 1, 2, 5)) if line[:2] != (0, 0)
]


def closed_fields():
    fields = [(bottom, corners, []) for bottom, corners, _ in SMALL if len(corners) > 2]
    fields += [(bottom, corners, []) for bottom, corners, _ in some_fences(111, 40, 4, (1, 2, 3, 4), (3, 4, 6, 9)) if len(corners) > 2]
    return [field for number, field in enumerate(fields) if field not in fields[:number]]


FIELDS = closed_fields()


def level(line, point):
    return line[0] * point[0] + line[1] * point[1] - line[2]


def plain_part(field, line, side):
    """The corners, as fractions, of the part of a closed field on one side of a line with the line itself."""
    bottom, corners, _ = field
    points = [(Fraction(x, bottom), Fraction(y, bottom)) for x, y in corners]
    kept = [point for point in points if side * level(line, point) <= 0]
    for one, two in zip(points, points[1:] + points[:1]):
        here, there = level(line, one), level(line, two)
        if here * there < 0:
            part = here / (here - there)
            kept.append((one[0] + part * (two[0] - one[0]), one[1] + part * (two[1] - one[1])))
    return plain_hull(kept)


def plain_cut(field, line):
    """Both parts as the document tells them, None where there is none, and False where a cut is impossible."""
    levels = [level(line, point) for point in plain_part((field[0], field[1], []), (0, 0, 0), 1)]
    low, high = plain_part(field, line, 1), plain_part(field, line, -1)
    parts = []
    for points, wanted in ((low, min(levels) <= 0), (high, max(levels) > 0)):
        if not wanted:
            parts.append(None)
            continue
        bottom = next((
            number for number in range(1, 31)
            if all((number * part).denominator == 1 for point in points for part in point)
        ), None)
        if bottom is None or len(points) > 10 or len(points) == 1:
            return False
        corners = [(int(bottom * x), int(bottom * y)) for x, y in points]
        if any(abs(number) > FAR for corner in corners for number in corner):
            return False
        ways = zip(points, points[1:] + points[:1])
        along = [spot for spot, way in enumerate(ways) if level(line, way[0]) == level(line, way[1]) == 0]
        parts.append((bottom, corners, along if points is high else []))
    return tuple(parts)


def plain_counts(field, line, size):
    """The numbers of stakes of both parts, place by place."""
    a, b, c = line
    stakes = plain_stakes(field, size)
    low = sum(a * x + b * y <= c * size for x, y in stakes)
    return (low, len(stakes) - low)


def led_line(line, move):
    """The line to which a move leads a line, with the same side low."""
    a, b, c, d, e, f = inverse_move(move)
    return (line[0] * a + line[1] * c, line[0] * b + line[1] * d, line[2] - line[0] * e - line[1] * f)


class TestCutFence(unittest.TestCase):
    def check(self, field, line):
        expected = plain_cut(field, line)
        if expected is False:
            with self.assertRaises(Impossible):
                cut_fence(field, line)
        else:
            self.assertEqual(cut_fence(field, line), expected, (field, line))
        return expected

    def test_against_a_plain_way(self):
        told = [self.check(field, line) for number, field in enumerate(FIELDS) for line in LINES[number % 3::3]]
        self.assertGreater(sum(cut is not False and None not in cut for cut in told), 700)
        self.assertGreater(sum(cut is not False and cut[0] is None for cut in told), 100)
        self.assertGreater(sum(cut is not False and cut[1] is None for cut in told), 100)
        self.assertGreater(told.count(False), 40)
        self.assertGreater(sum(cut is not False and cut[0] is not None and len(cut[0][1]) == 2 for cut in told), 10)

    def test_by_points_of_the_plane(self):
        fine = [(Fraction(x, 6), Fraction(y, 6)) for x in range(-20, 21) for y in range(-20, 21)]
        for field in FIELDS[::13]:
            for line in LINES[::17]:
                if plain_cut(field, line) is False:
                    continue
                low, high = cut_fence(field, line)
                for point in fine:
                    here = plain_holds(field, 1, point)
                    below = level(line, point) <= 0
                    self.assertIs(low is not None and plain_holds(low, 1, point), here and below)
                    self.assertIs(high is not None and plain_holds(high, 1, point), here and not below)

    def test_parts_are_fences_over_their_lowest_bottoms(self):
        for field in FIELDS[::3]:
            for line in LINES[::4]:
                if plain_cut(field, line) is False:
                    continue
                low, high = cut_fence(field, line)
                for part in (low, high):
                    if part is not None:
                        self.assertIs(is_fence(part), True)
                        self.assertEqual((lowest_fence(part), part[0]), (part, plain_lowest(part)))
                self.assertEqual(low is None or low[2] == [], True)
                self.assertLessEqual(len(high[2]) if high else 0, 1)
                areas = [Fraction(*fence_area(part)) for part in (low, high) if part is not None]
                self.assertEqual(sum(areas), Fraction(*fence_area(field)))

    def test_lines_that_miss_the_field(self):
        for field in (FIELD, (30, RING, []), (6, [(4 * x, 4 * y) for x, y in TEN], [])):
            whole = lowest_fence(field)
            far = 10 ** 39
            for line in ((1, 0, far), (0, -1, far), (7, -9, far), (-FORTY, FORTY, 10 ** 80)):
                self.assertEqual(cut_fence(field, line), (whole, None))
                self.assertEqual(cut_fence(field, (line[0], line[1], -line[2])), (None, whole))

    def test_lines_that_touch_one_corner(self):
        for field in (FIELD, SQUARE, (7, TEN, []), (1, RING, [])):
            bottom, corners, _ = field
            for spot, (x, y) in enumerate(corners):
                before, behind = corners[spot - 1], corners[(spot + 1) % len(corners)]
                a, b = behind[1] - before[1], before[0] - behind[0]
                # Ahead of the corner the field is low, on the other side it is that corner alone.
                line = (a * bottom, b * bottom, a * x + b * y)
                self.assertEqual(cut_fence(field, line), (lowest_fence(field), None))
                with self.assertRaises(Impossible):
                    cut_fence(field, tuple(-number for number in line))
                for size in (1, bottom, FAR):
                    total, alone = stake_count(field, size), stake_count((bottom, [(x, y)], []), size)
                    self.assertEqual(cut_counts(field, line, size), (total, 0))
                    self.assertEqual(cut_counts(field, tuple(-number for number in line), size), (alone, total - alone))

    def test_lines_along_a_side(self):
        for field in (FIELD, SQUARE, (7, TEN, []), (30, RING, []), (6, [(0, 0), (6, 0), (0, 9)], [])):
            bottom, corners, _ = field
            whole = lowest_fence(field)
            for side, (x, y) in enumerate(corners):
                next_x, next_y = corners[(side + 1) % len(corners)]
                a, b = next_y - y, x - next_x
                line = (a * bottom, b * bottom, a * x + b * y)
                self.assertEqual(cut_fence(field, line), (whole, None))
                low, high = cut_fence(field, tuple(-number for number in line))
                self.assertIs(are_same(low, (bottom, sorted([(x, y), (next_x, next_y)]), [])), True)
                self.assertEqual(lowest_fence(low), low)
                self.assertEqual(high, whole[:2] + ([side],))

    def test_lines_through_corners(self):
        for field in (SQUARE, (7, TEN, []), (30, RING, []), (1, RING, [])):
            bottom, corners, _ = field
            total = len(corners)
            for one, two in itertools.combinations(range(total), 2):
                if two - one in (1, total - 1):
                    continue
                (x, y), (to_x, to_y) = corners[one], corners[two]
                a, b = to_y - y, x - to_x
                line = (a * bottom, b * bottom, a * x + b * y)
                low, high = cut_fence(field, line)
                left = plain_hull(corners[:one + 1] + corners[two:])
                right = plain_hull(corners[one:two + 1])
                self.assertIs(are_same(high, (bottom, right, high[2])), True)
                self.assertIs(are_same(low, (bottom, left, [])), True)
                opened = high[1][high[2][0]], high[1][(high[2][0] + 1) % len(high[1])]
                ends = [(Fraction(u, high[0]), Fraction(v, high[0])) for u, v in opened]
                self.assertEqual(sorted(ends), sorted((Fraction(u, bottom), Fraction(v, bottom)) for u, v in (corners[one], corners[two])))
                self.assertEqual(len(high[2]), 1)
                there = cut_fence(field, tuple(-number for number in line))
                self.assertEqual(there[0], high[:2] + ([],))
                self.assertEqual(there[1][1], low[1])

    def test_bottoms_of_30_and_above(self):
        square = (1, [(0, 0), (30, 0), (30, 30), (0, 30)], [])
        for bottom in range(2, 35):
            line = (0, bottom, 1)
            if bottom <= 30:
                low = (bottom, [(0, 0), (30 * bottom, 0), (30 * bottom, 1), (0, 1)], [])
                high = (bottom, [(0, 1), (30 * bottom, 1), (30 * bottom, 30 * bottom), (0, 30 * bottom)], [0])
                self.assertEqual(cut_fence(square, line), (low, high))
            else:
                with self.assertRaises(Impossible):
                    cut_fence(square, line)
            for size in (1, 2, bottom, 3 * bottom, FAR):
                rows = size // bottom + 1
                self.assertEqual(cut_counts(square, line, size), (rows * (30 * size + 1), (30 * size + 1 - rows) * (30 * size + 1)))
        # Crossing points over 5 and over 6 need the bottom 30, those over 5 and over 7 would need 35.
        for slope, fits in ((6, True), (7, False)):
            field = (1, [(0, 0), (5, 0), (5 * slope, 5 * slope), (0, slope)], [])
            self.assertIs(is_fence(field), True)
            self.check(field, (slope, 5, 1))
            self.assertIs(plain_cut(field, (slope, 5, 1)) is not False, fits)
        # The whole field keeps a bottom of its own where the other part has none.
        self.assertEqual(cut_fence((30, [(0, 0), (1, 0), (0, 1)], []), (1, 1, 1)), ((30, [(0, 0), (1, 0), (0, 1)], []), None))

    def test_ten_corners_and_more(self):
        for spot in range(10):
            (x, y), before, behind = RING[spot], RING[spot - 1], RING[(spot + 1) % 10]
            a, b = behind[1] - before[1], before[0] - behind[0]
            whole = [a * u + b * v for u, v in RING]
            near = max(sorted(whole)[-2], max(whole) - 5)
            self.assertEqual(max(whole), a * x + b * y)
            line = (a, b, near + (max(whole) - near) // 2)
            # Taking one corner off leaves eleven of them in the low part.
            with self.assertRaises(Impossible):
                cut_fence((1, RING, []), line)
            for size in (1, 2, FAR):
                self.assertEqual(sum(cut_counts((1, RING, []), line, size)), stake_count((1, RING, []), size))
                self.assertGreater(cut_counts((1, RING, []), line, size)[0], cut_counts((1, RING, []), line, size)[1])
        ten = [(0, 0), (2, -4), (4, -6), (6, -6), (8, -4), (10, 0), (8, 4), (6, 6), (4, 6), (2, 4)]
        self.assertIs(is_fence((1, ten, [])), True)
        low, high = cut_fence((1, ten, []), (1, 0, 8))
        self.assertEqual(low, (1, ten[:5] + ten[6:], []))
        self.assertEqual(high, (1, [(8, -4), (10, 0), (8, 4)], [2]))
        for line, expected in (((1, 0, 9), False), ((1, 0, 7), 9), ((1, 0, 5), 7), ((0, 1, 5), 10), ((0, 1, 4), 8)):
            cut = self.check((1, ten, []), line)
            self.assertEqual(cut is not False and len(cut[0][1]), expected)

    def test_numbers_out_of_range(self):
        for top, fits in ((FAR // 2, True), (FAR // 2 + 1, False), (FAR, False)):
            field = (1, [(0, 0), (top, 0), (top, 1), (0, 1)], [])
            self.check(field, (0, 2, 1))
            self.assertIs(plain_cut(field, (0, 2, 1)) is not False, fits)
            self.assertEqual(cut_counts(field, (0, 2, 1), 1), (top + 1, top + 1))
        field = (1, [(0, 0), (FAR, 0), (0, FAR)], [])
        self.assertEqual(cut_fence(field, (1, 0, FAR - 1))[1], (1, [(FAR - 1, 0), (FAR, 0), (FAR - 1, 1)], [2]))
        for line in ((2, 0, 1), (3, 0, FAR), (2, 0, 2 * FAR - 1), (0, 7, 2 * FAR)):
            self.assertIs(self.check(field, line), False)
        self.assertIsNot(self.check((2, field[1], []), (2, 0, 1)), False)
        self.assertIs(self.check((2, field[1], []), (4, 0, 1)), False)

    def test_longest_lines(self):
        for field in (FIELD, (30, RING, []), (7, TEN, [])):
            for a, b, c in ((FORTY, FORTY - 1, FORTY), (FORTY, -1, 0), (1, FORTY, 3), (-FORTY, FORTY, -5), (FORTY, 0, FORTY)):
                self.check(field, (a, b, c))

    def test_multiples_of_a_line(self):
        for field in FIELDS[::11]:
            for line in LINES[::7]:
                twice = tuple(10 ** 37 * number for number in line)
                if plain_cut(field, line) is not False:
                    self.assertEqual(cut_fence(field, twice), cut_fence(field, line))
                self.assertEqual(cut_counts(field, twice, 5), cut_counts(field, line, 5))


class TestCutCounts(unittest.TestCase):
    def test_against_plain_counts(self):
        for number, field in enumerate(FIELDS):
            for line in LINES[number % 5::5]:
                for size in (1, 2, 5):
                    self.assertEqual(cut_counts(field, line, size), plain_counts(field, line, size), (field, line, size))

    def test_lines_with_fractions(self):
        source = random.Random(112)
        for field in FIELDS[::2]:
            for _ in range(6):
                line = (source.randint(-9, 9), source.randint(1, 9), source.randint(-30, 30))
                for size in (1, 3, 4):
                    self.assertEqual(cut_counts(field, line, size), plain_counts(field, line, size), (field, line, size))

    def test_parts_have_these_counts(self):
        for field in FIELDS[::3]:
            for line in LINES[::5]:
                if plain_cut(field, line) is not False:
                    parts = cut_fence(field, line)
                    for size in (1, 4, 30, FAR - 1, FAR):
                        counts = tuple(0 if part is None else stake_count(part, size) for part in parts)
                        self.assertEqual(cut_counts(field, line, size), counts)

    def test_far_sizes_follow_plain_counts(self):
        for field in ((1, [(0, 0), (2, 0), (0, 2)], []), (2, [(0, 0), (3, 1), (1, 3)], []), (1, [(-1, 0), (1, -1), (1, 1)], [])):
            for line in ((1, 1, 1), (2, 1, 1), (1, -1, 0), (3, 1, 2), (0, 2, 1), (-1, 2, -1)):
                repeat = field[0]
                while any((repeat * part).denominator != 1 for point in plain_part(field, line, 1) for part in point):
                    repeat += 1
                for size in (FAR, FAR - 1, 10 ** 15 + 7):
                    first = size % repeat or repeat
                    places = [first, first + repeat, first + 2 * repeat]
                    if places[-1] > 60:
                        continue
                    low = value_through([(place, plain_counts(field, line, place)[0]) for place in places], size)
                    self.assertEqual(cut_counts(field, line, size), (low, stake_count(field, size) - low))

    def test_fields_and_lines_led_by_moves(self):
        for field in FIELDS[::7] + [(30, TEN, [])]:
            for line in LINES[::11]:
                for move in SHEARS:
                    there = led(field, move)
                    for size in (1, 2, 7, FAR):
                        self.assertEqual(cut_counts(there, led_line(line, move), size), cut_counts(field, line, size))
                    if plain_cut(field, line) is not False:
                        expected = tuple(part and led(part, move) for part in cut_fence(field, line))
                        self.assertEqual(cut_fence(there, led_line(line, move)), expected)

    def test_both_sides_of_a_line(self):
        source = random.Random(113)
        for field in ((1, RING, []), (30, RING, []), (29, TEN, []), FIELD):
            reach = max(abs(number) for corner in field[1] for number in corner)
            for _ in range(25):
                a, b = source.randint(-FORTY, FORTY), source.randint(-FORTY, FORTY)
                middle = a * source.randint(-reach, reach) + b * source.randint(-reach, reach)
                for line in ((a, b, middle // (3 * field[0])), (a % 19 - 9, 1, reach // 7 // field[0])):
                    for size in (1, 7, FAR):
                        low, high = cut_counts(field, line, size)
                        self.assertEqual(low + high, stake_count(field, size))
                        # The other way round the line itself changes sides; a bit ahead of it nothing does.
                        back = cut_counts(field, tuple(-number for number in line), size)
                        self.assertGreaterEqual(back[0], high)
                        if size == 1:
                            self.assertEqual(cut_counts(field, (-line[0], -line[1], -line[2] - 1), size), (high, low))

    def test_rows(self):
        for field in ((1, RING, []), (30, RING, []), (2, TEN, [])):
            for size in (1, 30, FAR):
                for row in (-3, 0, 1, FAR // 60):
                    low = cut_counts(field, (0, 1, row), size)[0]
                    self.assertEqual(low, below_count(field, size, row * size))

    def test_greatest_numbers_at_once(self):
        source = random.Random(114)
        for _ in range(20):
            a, b = source.randint(10 ** 39, FORTY), -source.randint(10 ** 39, FORTY)
            x, y = source.choice(RING)
            c = (a * (x // 3) + b * (y // 3)) // 30
            low, high = cut_counts((30, RING, []), (a, b, c), FAR)
            self.assertEqual(low + high, stake_count((30, RING, []), FAR))
            self.assertGreater(min(low, high), 0)
            # Turned about the middle, the low part is the high part and the line.
            there = led((30, RING, []), (-1, 0, 0, -1, 0, 0))
            self.assertEqual(cut_counts(there, (-a, -b, c), FAR), (low, high))

    def test_only_closed_fields(self):
        lines = ((1, 0, 0), (1, 0, 5), (1, 0, -5), (0, 1, 0), (0, -1, 0), (2, 0, 1))
        for fence, line in itertools.product(((1, [(0, 0)], []), (1, [(0, 0), (1, 0)], [])), lines):
            with self.assertRaises(Impossible):
                cut_fence(fence, line)
            with self.assertRaises(Impossible):
                cut_counts(fence, line, 1)
        for fence in ((1, FIELD[1], [0]), (1, FIELD[1], [0, 1, 2]), (1, [(0, 0), (1, 0)], [1]), (30, RING, [9])):
            for call in (lambda: cut_fence(fence, None), lambda: cut_counts(fence, None, None)):
                with self.assertRaises(InvalidFence) as caught:
                    call()
                self.assertEqual(caught.exception.part, "sides")

    def test_kinds_of_answers(self):
        cut = cut_fence(FIELD, (1, 0, 1))
        self.assertEqual([part.__class__ for part in (cut, *cut)], [tuple] * 3)
        self.assertEqual([part.__class__ for part in cut[1]], [int, list, list])
        self.assertEqual([part.__class__ for part in cut_counts(FIELD, (1, 0, 1), 1)], [int, int])


if __name__ == "__main__":
    unittest.main()
