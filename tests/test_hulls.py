"""[21]: the hull of the stakes of a grown fence, against hulls of stakes that are found place by place."""

import random
import unittest
from fractions import Fraction

from far_fences import FAR
from plain import all_sides, led, plain_hull, plain_stakes, some_fences, turn
from plain_rules import SMALL, STEEP, TEN

from growfences.counts import holds_stake, stake_count
from growfences.errors import Impossible, InvalidSize
from growfences.fences import fence_of, is_fence, shut_fence
from growfences.hulls import inner_fence, stake_hull
from growfences.places import row_stakes, stake_rows

LOW = (2, [(0, 0), (2, 0), (0, 1)], [])
SHUT = (2, [(0, 0), (2, 0), (0, 1)], [0, 1, 2])
SQUARE = [(0, 0), (1, 0), (1, 1), (0, 1)]


def plain_inner(corners):
    """The fence that the corners of a hull make, False where there is no such fence."""
    if not corners:
        return None
    if len(corners) > 10 or any(abs(number) > FAR for corner in corners for number in corner):
        return False
    return (1, corners, [])


def is_hull(corners):
    """Whether corners turn left everywhere, the least one first."""
    if len(corners) < 3:
        return corners == sorted(set(corners))
    ways = range(len(corners))
    lefts = [turn(corners[way - 2], corners[way - 1], corners[way]) > 0 for way in ways]
    return all(lefts) and corners[0] == min(corners)


class TestAgainstPlainHulls(unittest.TestCase):
    def check(self, fence, size):
        hull = plain_hull(plain_stakes(fence, size))
        self.assertEqual(stake_hull(fence, size), hull, (fence, size))
        inner = plain_inner(hull)
        if inner is False:
            with self.assertRaises(Impossible):
                inner_fence(fence, size)
        else:
            self.assertEqual(inner_fence(fence, size), inner, (fence, size))
        return len(hull)

    def test_small_fences(self):
        lengths = {self.check(fence, size) for fence in SMALL for size in (1, 2, 3, 4, 7)}
        self.assertGreaterEqual(lengths, {0, 1, 2, 3, 4, 5, 6, 7, 8})

    def test_each_choice_of_open_sides(self):
        for corners in ([(1, 1)], [(0, 0), (4, 2)], [(0, 1), (5, 1)], [(2, 0), (2, 5)], [(0, 0), (5, 1), (1, 4)], SQUARE):
            for bottom in (1, 2, 3):
                for fence in all_sides(bottom, corners):
                    for size in (1, 2, 3, 6):
                        self.check(fence, size)

    def test_greatest_bottoms(self):
        for fence in STEEP:
            for size in (1, 7, 15, 29, 30, 59, 60):
                self.check(fence, size)

    def test_many_corners(self):
        lengths = set()
        for fence in [(1, TEN, []), (2, TEN, [0, 4]), (3, TEN, list(range(10))), (30, [(10 * x, 10 * y) for x, y in TEN], [2])]:
            for size in (1, 2, 3, 5, 8):
                lengths.add(self.check(fence, size))
        self.assertGreater(max(lengths), 10)
        self.assertIn(10, lengths)

    def test_other_fences(self):
        for fence in some_fences(101, 60, 9, (1, 2, 3, 5, 7), (2, 3, 4, 6, 12)):
            for size in (1, 2, 5):
                self.check(fence, size)


class TestRows(unittest.TestCase):
    def check_rows(self, fence, size, rows):
        """Whether a hull is told for a fence with this many rows."""
        if rows > 400:
            for function in (stake_hull, inner_fence):
                with self.assertRaises(Impossible):
                    function(fence, size)
        else:
            self.assertTrue(is_hull(stake_hull(fence, size)))

    def test_400_and_401_rows(self):
        for many in (399, 400, 401, 402):
            for start in (0, -200, FAR - 500, -FAR):
                first, last = start, start + many - 1
                for sides in ([], [0], [0, 1], [1, 2]):
                    self.check_rows((1, sorted([(0, first), (3, last)]), [side for side in sides if side < 2]), 1, many)
                    field = (1, plain_hull([(0, first), (3, first), (1, last)]), sides)
                    self.check_rows(field, 1, many)
        field = (1, [(0, 0), (5, 0), (0, 399)], [])
        self.assertEqual(stake_hull(field, 1), [(0, 0), (5, 0), (0, 399)])
        self.assertEqual(stake_hull((1, [(0, 0), (5, 0), (0, 399)], [1]), 1)[0], (0, 0))
        with self.assertRaises(Impossible):
            stake_hull((1, [(0, 0), (5, 0), (0, 400)], [0, 1, 2]), 1)

    def test_rows_that_are_no_stakes_count(self):
        # No stake belongs to these fences, but their rows are counted all the same.
        self.assertEqual(stake_hull((2, [(1, 0), (1, 798)], []), 1), [])
        with self.assertRaises(Impossible):
            stake_hull((2, [(1, 0), (1, 800)], []), 1)
        self.assertEqual(stake_hull((2, [(1, 1), (1, 801)], []), 1), [])
        self.assertEqual(stake_hull((2, [(1, -1), (1, 799)], []), 1), [])
        with self.assertRaises(Impossible):
            stake_hull((2, [(1, -1), (1, 800)], []), 1)

    def test_rows_of_grown_fences(self):
        for bottom in (1, 2, 3, 29, 30):
            for top in (1, 5, 7):
                fence = (bottom, [(0, -top), (4, 0), (0, top)], [0])
                limits = [size for size in range(1, 6100) if 2 * (size * top // bottom) + 1 > 400]
                for size in (limits[0] - 1, limits[0], limits[0] + 1, limits[-1]):
                    self.check_rows(fence, size, 2 * (size * top // bottom) + 1)

    def test_no_row_at_all(self):
        for fence in ((2, [(0, 1), (2, 1)], []), (2, [(5, 1)], []), (3, [(0, 1), (9, 1), (0, 2)], []), (30, [(0, 1), (FAR, 29)], [])):
            self.assertEqual(stake_hull(fence, 1), [])
            self.assertIs(inner_fence(fence, 1), None)
        with self.assertRaises(Impossible):
            stake_hull((30, [(0, 1), (FAR, 29)], []), FAR)

    def test_far_sizes(self):
        flat = (1, [(0, 0), (FAR, 0)], [])
        self.assertEqual(stake_hull(flat, 1), [(0, 0), (FAR, 0)])
        self.assertEqual(stake_hull(flat, FAR), [(0, 0), (FAR * FAR, 0)])
        self.assertEqual(stake_hull(flat[:2] + ([0, 1],), FAR), [(1, 0), (FAR * FAR - 1, 0)])
        self.assertEqual(stake_hull((2, [(1, 4), (5, 4)], []), FAR - 1), [(FAR // 2, 2 * FAR - 2), ((5 * FAR - 6) // 2, 2 * FAR - 2)])
        self.assertEqual(stake_hull((6, [(3, 2)], []), 6 * 10 ** 29), [(3 * 10 ** 29, 2 * 10 ** 29)])
        self.assertEqual(stake_hull((6, [(3, 2)], []), FAR), [])
        self.assertEqual(stake_hull((1, [(-FAR, FAR)], []), FAR), [(-FAR * FAR, FAR * FAR)])
        for fence in (LOW, SHUT, (30, [(0, 0), (0, 1)], []), (1, [(0, 0), (1, 1)], [0, 1])):
            for function in (stake_hull, inner_fence):
                with self.assertRaises(Impossible):
                    function(fence, FAR)
                with self.assertRaises(InvalidSize):
                    function(fence, FAR + 1)


class TestFarFences(unittest.TestCase):
    def test_fences_led_along_their_rows(self):
        for fence in some_fences(102, 50, 8, (1, 2, 3), (2, 3, 4, 7)):
            for size in (1, 2, 5):
                hull = plain_hull(plain_stakes(fence, size))
                for a, b, c, d, e, f in ((1, 10 ** 28 + 1, 0, 1, 0, 0), (-1, -(3 ** 50), 0, 1, 5, 10 ** 28), (1, 7, 0, -1, -(10 ** 27), 2)):
                    there = led(fence, (a, b, c, d, e, f))
                    expected = plain_hull([(a * x + b * y + size * e, c * x + d * y + size * f) for x, y in hull])
                    self.assertEqual(stake_hull(there, size), expected, (fence, size))

    def test_wide_fences(self):
        source = random.Random(103)
        for _ in range(60):
            points = [(source.randint(-FAR, FAR), source.randint(-190, 190)) for _ in range(source.choice((2, 3, 6, 14)))]
            corners = plain_hull(points)
            if len(corners) <= 10:
                sides = [side for side in range(len(corners)) if len(corners) > 1 and source.random() < 0.4]
                for bottom in (1, 2, 3):
                    fence = (bottom, corners, sides)
                    hull = stake_hull(fence, 1)
                    self.assertTrue(is_hull(hull))
                    rows = stake_rows(fence, 1)
                    ends = [] if rows is None else [
                        (x, y) for y in range(rows[0], rows[1] + 1) for x in row_stakes(fence, 1, y) or ()
                    ]
                    self.assertEqual(hull, plain_hull(ends))
                    for corner in hull:
                        self.assertIs(holds_stake(fence, 1, corner), True)

    def test_ten_corners_over_a_great_bottom(self):
        far = [(10 ** 28 * x + y, y) for x, y in TEN]
        for bottom, size in ((1, 1), (2, 3), (30, 50), (29, 30)):
            for sides in ([], [0, 7], list(range(10))):
                fence = (bottom, plain_hull(far), sides)
                self.assertEqual(len(fence[1]), 10)
                hull = stake_hull(fence, size)
                self.assertTrue(is_hull(hull))
                self.assertEqual(stake_hull(fence[:2] + ([],), bottom), fence[1])
                self.assertTrue(all(holds_stake(fence, size, corner) for corner in hull))


class TestInnerFence(unittest.TestCase):
    def test_one_two_and_no_stakes(self):
        self.assertEqual([stake_hull(SHUT, size) for size in (1, 2, 3, 4, 5)], [[], [], [], [(1, 1)], [(1, 1), (2, 1)]])
        self.assertEqual(inner_fence(SHUT, 5), (1, [(1, 1), (2, 1)], []))
        self.assertEqual([inner_fence(SHUT, size) for size in (1, 2, 3)], [None, None, None])
        self.assertEqual(stake_hull((1, [(0, 0), (4, 8)], [0]), 1), [(1, 2), (4, 8)])
        self.assertEqual(stake_hull((1, [(3, -2), (3, 5)], []), 2), [(6, -4), (6, 10)])
        self.assertEqual(stake_hull((3, [(0, 0), (4, 8)], []), 1), [(0, 0), (1, 2)])
        self.assertEqual(stake_hull((3, [(0, 0), (4, 8)], [0]), 1), [(1, 2)])
        # A field whose stakes are on one line.
        self.assertEqual(stake_hull((2, [(-1, -1), (9, 8), (8, 9)], []), 1), [(0, 0), (4, 4)])
        self.assertEqual(stake_hull((3, [(0, 1), (9, 3), (9, 4)], []), 1), [(2, 1), (3, 1)])

    def test_ten_corners_and_eleven(self):
        ten = [(x, x * x) for x in range(9)] + [(0, 9)]
        ten = plain_hull(ten)
        self.assertEqual(len(ten), 10)
        self.assertEqual(inner_fence((1, ten, []), 1), (1, ten, []))
        twice = [(2 * x, 2 * y) for x, y in ten]
        self.assertEqual(inner_fence((1, ten, []), 2), (1, twice, []))
        # Opening the sides takes corners away and makes more of them.
        for sides in ([0], [9], [4, 5], list(range(10))):
            hull = stake_hull((1, ten, sides), 3)
            self.assertEqual(hull, plain_hull(plain_stakes((1, ten, sides), 3)))
            self.assertGreater(len(hull), 10)
            with self.assertRaises(Impossible):
                inner_fence((1, ten, sides), 3)

    def test_numbers_out_of_range(self):
        for sides, size, fits in (([], 1, True), ([], 2, False), ([1], 1, True), ([0, 1], 2, False)):
            fence = (1, [(0, 0), (FAR, 0)], sides)
            hull = stake_hull(fence, size)
            if fits:
                self.assertEqual(inner_fence(fence, size), (1, hull, []))
            else:
                with self.assertRaises(Impossible):
                    inner_fence(fence, size)
        self.assertEqual(inner_fence((2, [(-FAR, FAR)], []), 2), (1, [(-FAR, FAR)], []))
        with self.assertRaises(Impossible):
            inner_fence((2, [(-FAR, FAR)], []), 4)
        # An open end takes the number that is out of range away.
        long = (2, [(-1, 0), (FAR, 0)], [1])
        self.assertEqual(inner_fence((1, [(0, 0), (FAR // 2, 0)], []), 2), (1, [(0, 0), (FAR, 0)], []))
        self.assertEqual(inner_fence(long, 2), (1, [(-1, 0), (FAR - 1, 0)], []))
        wide = (3, [(0, 0), (FAR, 0), (0, 1)], [])
        self.assertEqual(inner_fence(wide, 3), (1, wide[1], []))
        with self.assertRaises(Impossible):
            inner_fence(wide, 6)
        self.assertEqual(len(stake_hull(wide, 6)), 3)

    def test_the_hull_of_an_inner_fence(self):
        for fence in SMALL[::3]:
            for size in (1, 3, 4):
                hull = stake_hull(fence, size)
                if hull and len(hull) <= 10:
                    inner = inner_fence(fence, size)
                    self.assertIs(is_fence(inner), True)
                    self.assertEqual(fence_of(1, inner[1]), inner)
                    self.assertEqual((stake_hull(inner, 1), inner_fence(inner, 1)), (hull, inner))
                    if len(fence[1]) > 1:
                        self.assertEqual(stake_count(inner, 1), stake_count(fence, size), (fence, size))

    def test_shut_fences(self):
        for fence in SMALL[::4]:
            shut = shut_fence(fence)
            for size in (2, 5):
                self.assertEqual(stake_hull(shut, size), plain_hull(plain_stakes(shut, size)))

    def test_kinds_of_answers(self):
        self.assertIs(stake_hull(LOW, 3).__class__, list)
        self.assertEqual({part.__class__ for part in stake_hull(LOW, 3)}, {tuple})
        self.assertEqual([part.__class__ for part in inner_fence(LOW, 3)], [int, list, list])
        self.assertEqual({Fraction(part).denominator for corner in stake_hull(LOW, 7) for part in corner}, {1})


if __name__ == "__main__":
    unittest.main()
