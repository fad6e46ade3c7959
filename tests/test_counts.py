"""[6], [7] and [11]: the counts, against plain counts for small fences and at the edges the document names."""

import unittest

from plain import all_sides, box_places, plain_holds, plain_hull, plain_side, plain_sides, plain_stakes, some_fences

from growfences.counts import below_count, holds_stake, row_count, side_count, stake_count

FAR = 10 ** 30
LOW = (2, [(0, 0), (2, 0), (0, 1)], [])


class TestAgainstPlainCounts(unittest.TestCase):
    def check_fence(self, fence, size):
        places = box_places(fence, size)
        stakes = [place for place in places if plain_holds(fence, size, place)]
        self.assertEqual(stake_count(fence, size), len(stakes), (fence, size))
        for place in places:
            self.assertIs(holds_stake(fence, size, place), plain_holds(fence, size, place), (fence, size, place))
        for row in sorted({y for _, y in places}):
            self.assertEqual(row_count(fence, size, row), sum(y == row for _, y in stakes), (fence, size, row))
            self.assertEqual(below_count(fence, size, row), sum(y <= row for _, y in stakes), (fence, size, row))
        for side in plain_sides(fence[1]):
            self.assertEqual(side_count(fence, side, size), len(plain_side(fence, side, size)), (fence, size, side))

    def test_each_choice_of_open_sides(self):
        shapes = [
            [(1, 2)], [(0, 0)], [(-1, 1), (2, 1)], [(1, -2), (1, 3)], [(0, 3), (2, -1)], [(-2, -1), (2, 3)],
            [(0, 0), (3, 1), (1, 2)], [(-1, 0), (2, -1), (2, 2)], [(0, 0), (2, 0), (2, 2), (0, 2)],
            [(-2, 0), (0, -2), (2, 0), (0, 2)],
        ]
        for corners in shapes:
            self.assertEqual(plain_hull(corners), corners)
            for bottom in (1, 2, 3):
                for fence in all_sides(bottom, corners):
                    for size in (1, 2, 3):
                        self.check_fence(fence, size)

    def test_fences_of_all_kinds(self):
        for fence in some_fences(11, 120, 6, (1, 2, 3, 4, 5, 6), (1, 2, 2, 3, 3, 4, 6, 9)):
            for size in (1, 2, 3, 7):
                self.check_fence(fence, size)

    def test_greatest_bottom(self):
        for fence in some_fences(12, 40, 60, (30,), (1, 2, 3, 4, 9)):
            for size in (1, 7, 30):
                self.check_fence(fence, size)

    def test_counts_at_many_sizes(self):
        for fence in some_fences(13, 60, 5, (1, 2, 3, 4, 5, 6), (1, 2, 3, 4, 8)):
            for size in range(1, 13):
                self.assertEqual(stake_count(fence, size), len(plain_stakes(fence, size)), (fence, size))

    def test_ten_corners(self):
        ring = [(0, 0), (2, -3), (5, -4), (8, -3), (10, 0), (10, 4), (8, 7), (5, 8), (2, 7), (0, 4)]
        self.assertEqual(plain_hull(ring), ring)
        for bottom in (1, 2, 3, 30):
            for sides in ([], [0], [4], [9], [0, 9], [1, 3, 5, 7, 9], list(range(10))):
                for size in (1, 2, 3):
                    self.check_fence((bottom, ring, sides), size)


class TestEdges(unittest.TestCase):
    def test_points(self):
        for bottom in (1, 2, 30):
            for size in (1, 2, 15, 30, FAR):
                there = size % bottom == 0
                fence = (bottom, [(1, -1)], [])
                self.assertEqual(stake_count(fence, size), int(there))
                spot = (size // bottom, -(size // bottom))
                self.assertIs(holds_stake(fence, size, spot), there)
                self.assertEqual(row_count(fence, size, spot[1]), int(there))
                self.assertEqual(below_count(fence, size, spot[1]), int(there))
                self.assertEqual(below_count(fence, size, spot[1] - 1), 0)

    def test_corners_at_the_ends_of_the_range(self):
        square = (1, [(-FAR, -FAR), (FAR, -FAR), (FAR, FAR), (-FAR, FAR)], [])
        width = 2 * FAR * FAR + 1
        self.assertEqual(stake_count(square, FAR), width * width)
        self.assertEqual(stake_count(square[:2] + ([0, 1, 2, 3],), FAR), (width - 2) ** 2)
        self.assertEqual(stake_count(square[:2] + ([1],), FAR), width * (width - 1))
        self.assertEqual([side_count(square, side, FAR) for side in range(4)], [width] * 4)
        self.assertEqual(row_count(square, FAR, FAR * FAR), width)
        self.assertEqual(row_count(square, FAR, FAR * FAR + 1), 0)
        self.assertEqual(below_count(square, FAR, 0), width * (FAR * FAR + 1))

    def test_long_stretches(self):
        long = (1, [(-FAR, -FAR), (FAR, FAR)], [])
        self.assertEqual([stake_count(long, size) for size in (1, FAR)], [2 * FAR + 1, 2 * FAR * FAR + 1])
        self.assertEqual(stake_count(long[:2] + ([0],), FAR), 2 * FAR * FAR)
        self.assertEqual(stake_count(long[:2] + ([0, 1],), FAR), 2 * FAR * FAR - 1)
        steep = (1, [(0, FAR), (1, -FAR)], [])
        self.assertEqual([stake_count(steep, size) for size in (1, 2, FAR)], [2, 3, FAR + 1])
        self.assertEqual([row_count(steep, FAR, row) for row in (FAR * FAR, FAR * FAR - 1, 0)], [1, 0, 1])
        self.assertEqual(below_count(steep, FAR, 0), FAR // 2 + 1)
        self.assertEqual([side_count(steep, side, 1) for side in (0, 1)], [1, 1])
        aside = (30, [(1, FAR), (31, FAR)], [])
        self.assertEqual([stake_count(aside, size) for size in (1, 3, 30, FAR)], [0, 3, 31, 0])

    def test_open_ends_that_are_no_stakes(self):
        for sides in ([], [0], [1], [0, 1]):
            self.assertEqual(stake_count((3, [(1, 0), (8, 0)], sides), 1), 2)
            self.assertEqual(stake_count((3, [(1, 0), (8, 0)], sides), 3), 8 - len(sides))
            self.assertEqual(stake_count((3, [(0, 1), (0, 8)], sides), 1), 2)

    def test_open_sides_without_stakes(self):
        for fence in all_sides(3, [(1, 1), (8, 2), (2, 8)]):
            self.assertEqual([side_count(fence, side, 1) for side in (0, 1, 2)], [0, 0, 0])
            self.assertEqual(stake_count(fence, 1), 3)

    def test_no_stakes_at_all(self):
        self.assertEqual(stake_count((30, [(1, 1), (2, 1), (1, 2)], []), 1), 0)
        self.assertEqual(stake_count((2, [(0, 1), (2, 1)], []), 10 ** 30 - 1), 0)
        self.assertEqual(stake_count((1, [(0, 0), (1, 0), (0, 1)], [0, 1, 2]), 2), 0)

    def test_rows_of_200_digits(self):
        for fence in (LOW, (2, [(0, 1), (2, 1)], []), (1, [(0, -FAR), (1, FAR)], []), (6, [(3, 2)], [])):
            for size in (6, FAR):
                for row in (10 ** 200 - 1, 1 - 10 ** 200):
                    self.assertEqual(row_count(fence, size, row), 0)
                    self.assertEqual(below_count(fence, size, row), stake_count(fence, size) if row > 0 else 0)
                    self.assertIs(holds_stake(fence, size, (0, row)), False)
                    self.assertIs(holds_stake(fence, size, (row, 0)), False)
                    self.assertIs(holds_stake(fence, size, (row, row)), False)

    def test_sides_are_counted_open_or_closed(self):
        for fence in all_sides(2, LOW[1]):
            self.assertEqual([side_count(fence, side, 3) for side in (0, 1, 2)], [4, 2, 2])
        for fence in all_sides(2, [(0, 1), (2, 2)]):
            self.assertEqual([[side_count(fence, side, size) for side in (0, 1)] for size in (1, 2)], [[0, 1], [1, 1]])

    def test_kinds_of_answers(self):
        self.assertIs(stake_count((6, [(3, 2)], []), 1).__class__, int)
        self.assertIs(side_count((2, [(0, 1), (2, 1)], []), 0, 2).__class__, int)
        self.assertIs(row_count(LOW, 1, 0).__class__, int)
        self.assertIs(below_count(LOW, 1, 0).__class__, int)
        self.assertIs(holds_stake(LOW, 1, (0, 0)).__class__, bool)


if __name__ == "__main__":
    unittest.main()
