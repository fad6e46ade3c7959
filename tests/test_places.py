"""[5] and [12]: the stakes by index and by row, against plain lists and at the edges the document names."""

import unittest

from plain import all_sides, box_places, plain_stakes, some_fences

from growfences.counts import stake_count
from growfences.errors import InvalidNumber, InvalidPoint
from growfences.places import nth_stake, row_stakes, stake_index, stake_rows

FAR = 10 ** 30
LOW = (2, [(0, 0), (2, 0), (0, 1)], [])


class TestAgainstPlainLists(unittest.TestCase):
    def check_fence(self, fence, size):
        stakes, places = plain_stakes(fence, size), box_places(fence, size)
        self.assertEqual([nth_stake(fence, size, index) for index in range(len(stakes))], stakes, (fence, size))
        self.assertEqual([stake_index(fence, size, stake) for stake in stakes], list(range(len(stakes))), (fence, size))
        rows = (stakes[0][1], stakes[-1][1]) if stakes else None
        self.assertEqual(stake_rows(fence, size), rows, (fence, size))
        for row in sorted({y for _, y in places}):
            columns = [x for x, y in stakes if y == row]
            ends = (columns[0], columns[-1]) if columns else None
            self.assertEqual(row_stakes(fence, size, row), ends, (fence, size, row))
        for index in (-1, len(stakes), len(stakes) + 1):
            with self.assertRaises(InvalidNumber):
                nth_stake(fence, size, index)
        for place in places:
            if place not in stakes:
                with self.assertRaises(InvalidPoint):
                    stake_index(fence, size, place)

    def test_fences_of_all_kinds(self):
        for fence in some_fences(21, 100, 6, (1, 2, 3, 4, 5, 6), (1, 2, 2, 3, 3, 4, 6, 9)):
            for size in (1, 2, 3, 7):
                self.check_fence(fence, size)

    def test_greatest_bottom(self):
        for fence in some_fences(22, 24, 40, (30,), (1, 2, 3, 4, 9)):
            for size in (1, 7, 30):
                self.check_fence(fence, size)

    def test_each_choice_of_open_sides(self):
        for corners in ([(0, 3), (2, -1)], [(0, 0), (2, 0)], [(0, 0), (3, 1), (1, 2)], [(0, 0), (2, 0), (2, 2), (0, 2)]):
            for bottom in (1, 2):
                for fence in all_sides(bottom, corners):
                    for size in (1, 2, 3):
                        self.check_fence(fence, size)


class TestEdges(unittest.TestCase):
    def check_index(self, fence, size, index, stake):
        self.assertEqual(nth_stake(fence, size, index), stake)
        self.assertEqual(stake_index(fence, size, stake), index)

    def test_points(self):
        self.check_index((6, [(3, 2)], []), 6 * 10 ** 29, 0, (3 * 10 ** 29, 2 * 10 ** 29))
        self.assertEqual(stake_rows((6, [(3, 2)], []), 12), (4, 4))
        self.assertEqual(row_stakes((6, [(3, 2)], []), 12, 4), (6, 6))
        self.assertIs(stake_rows((6, [(3, 2)], []), 3), None)
        self.assertIs(row_stakes((6, [(3, 2)], []), 3, 1), None)

    def test_a_falling_stretch_ascends_by_y(self):
        fall = (1, [(0, FAR), (1, -FAR)], [])
        self.check_index(fall, FAR, 0, (FAR, -FAR * FAR))
        self.check_index(fall, FAR, 1, (FAR - 1, 2 * FAR - FAR * FAR))
        self.check_index(fall, FAR, FAR, (0, FAR * FAR))
        self.assertEqual(stake_rows(fall, FAR), (-FAR * FAR, FAR * FAR))
        self.assertEqual([row_stakes(fall, FAR, row) for row in (0, 1)], [(FAR // 2, FAR // 2), None])
        self.check_index(fall[:2] + ([1],), FAR, 0, (FAR - 1, 2 * FAR - FAR * FAR))

    def test_a_level_stretch(self):
        level = (30, [(-FAR, 30), (FAR, 30)], [0])
        far = FAR * FAR // 30
        self.check_index(level, FAR, 0, (-far, FAR))
        self.check_index(level, FAR, 2 * far, (far, FAR))
        self.assertEqual(stake_rows(level, FAR), (FAR, FAR))
        self.assertEqual(row_stakes(level, FAR, FAR), (-far, far))
        self.assertEqual(row_stakes((1, [(-FAR, 30), (FAR, 30)], [0]), 1, 30), (1 - FAR, FAR))

    def test_a_square_at_the_ends_of_the_range(self):
        square = (1, [(-FAR, -FAR), (FAR, -FAR), (FAR, FAR), (-FAR, FAR)], [])
        far = FAR * FAR
        width = 2 * far + 1
        self.check_index(square, FAR, 0, (-far, -far))
        self.check_index(square, FAR, width - 1, (far, -far))
        self.check_index(square, FAR, width, (-far, 1 - far))
        self.check_index(square, FAR, width * width // 2, (0, 0))
        self.check_index(square, FAR, width * width - 1, (far, far))
        shut = square[:2] + ([0, 1, 2, 3],)
        self.check_index(shut, FAR, 0, (1 - far, 1 - far))
        self.assertEqual(stake_rows(shut, FAR), (1 - far, far - 1))
        self.assertEqual(row_stakes(shut, FAR, 0), (1 - far, far - 1))
        self.assertIs(row_stakes(shut, FAR, far), None)

    def test_indexes_rows_and_points_of_200_digits(self):
        huge = 10 ** 200 - 1
        for fence in (LOW, (2, [(0, 1), (2, 1)], []), (6, [(3, 2)], [])):
            for size in (6, FAR):
                for index in (huge, -huge, stake_count(fence, size)):
                    with self.assertRaises(InvalidNumber):
                        nth_stake(fence, size, index)
                for point in ((huge, 0), (0, huge), (-huge, -huge)):
                    with self.assertRaises(InvalidPoint):
                        stake_index(fence, size, point)
                for row in (huge, -huge):
                    self.assertIs(row_stakes(fence, size, row), None)

    def test_rows_without_stakes_at_both_ends(self):
        thin = (1, [(0, 0), (100, 99), (99, 99)], [0, 1, 2])
        self.assertEqual(plain_stakes(thin, 1), [])
        self.assertIs(stake_rows(thin, 1), None)
        stakes = plain_stakes(thin, 2)
        self.assertNotEqual(stakes[0][1], 1)
        self.assertEqual(stake_rows(thin, 2), (stakes[0][1], stakes[-1][1]))
        self.assertEqual(nth_stake(thin, 2, 0), stakes[0])

    def test_kinds_of_answers(self):
        for answer in (nth_stake(LOW, 3, 5), stake_rows(LOW, 3), row_stakes(LOW, 3, 1)):
            self.assertEqual([answer.__class__, *[item.__class__ for item in answer]], [tuple, int, int])
        self.assertIs(stake_index(LOW, 3, (0, 0)).__class__, int)


if __name__ == "__main__":
    unittest.main()
