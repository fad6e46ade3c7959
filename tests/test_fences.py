"""[5], [6], [8] and [10]: what a fence is, and the fences that are made from others."""

import itertools
import math
import random
import unittest
from fractions import Fraction

from plain import all_sides, plain_hull, plain_holds, some_fences, turn

from growfences.errors import Impossible
from growfences.fences import (
    are_same, closed_fence, fence_area, fence_kind, fence_of, is_fence, lowest_fence, shut_fence, turned_fence,
)

FAR = 10 ** 30
POINT = (6, [(3, 2)], [])
STRETCH = (2, [(0, 1), (2, 1)], [1])
FIELD = (4, [(-4, 0), (4, -4), (8, 0), (0, 8)], [0, 2])
RING = [(0, 0), (2, -3), (5, -4), (8, -3), (10, 0), (10, 4), (8, 7), (5, 8), (2, 7), (0, 4)]


class TestIsFence(unittest.TestCase):
    def test_bottoms(self):
        for bottom in (1, 2, 29, 30):
            self.assertIs(is_fence((bottom, [(0, 0)], [])), True)
        for bottom in (0, -1, 31, 10 ** 30, True, False, 1.0, "1", None, [1], (1,)):
            self.assertIs(is_fence((bottom, [(0, 0)], [])), False)

    def test_corners_at_the_ends_of_the_range(self):
        for corner in ((FAR, FAR), (-FAR, -FAR), (FAR, -FAR), (0, FAR)):
            self.assertIs(is_fence((30, [corner], [])), True)
        for corner in ((FAR + 1, 0), (0, FAR + 1), (-FAR - 1, 0), (0, -FAR - 1)):
            self.assertIs(is_fence((30, [corner], [])), False)
            self.assertIs(is_fence((30, sorted([corner, (1, 1)]), [])), False)

    def test_wholes(self):
        for value in (None, 1, "fence", [], (), {}, [1, [(0, 0)], []], (1, [(0, 0)]), (1, [(0, 0)], [], [])):
            self.assertIs(is_fence(value), False)

    def test_corner_lists(self):
        wrong = [
            None, (), [], ((0, 0),), [0, 0], [[0, 0]], [(0,)], [(0, 0, 0)], [(0, True)], [(False, 0)], [(0, 0.0)],
            [("0", "0")], [(0, 0), (0, 0)], [(0, 1), (0, 0)], [(0, 0), None], {(0, 0): 1}, "00", {(0, 0)},
        ]
        for corners in wrong:
            with self.subTest(corners=corners):
                self.assertIs(is_fence((1, corners, [])), False)

    def test_sides(self):
        square = [(0, 0), (1, 0), (1, 1), (0, 1)]
        for sides in ([], [0], [3], [0, 3], [0, 1, 2, 3], [1, 2]):
            self.assertIs(is_fence((1, square, sides)), True)
        wrong = [None, (), (0,), [4], [-1], [0, 0], [1, 0], [0, 1, 2, 3, 4], [True], [False], [0.0], ["0"], [None], {0}]
        for sides in wrong:
            with self.subTest(sides=sides):
                self.assertIs(is_fence((1, square, sides)), False)
        self.assertIs(is_fence((1, [(0, 0), (1, 0)], [0, 1])), True)
        self.assertIs(is_fence((1, [(0, 0), (1, 0)], [2])), False)
        self.assertIs(is_fence((1, [(0, 0)], [0])), False)

    def test_all_sequences_of_a_small_grid(self):
        grid = [(x, y) for x in range(3) for y in range(3)]
        for many in (1, 2, 3, 4):
            for corners in itertools.product(grid, repeat=many):
                corners = list(corners)
                self.assertIs(is_fence((1, corners, [])), corners == plain_hull(corners), corners)

    def test_all_sequences_of_a_ring(self):
        ring = [(0, 1), (1, 0), (3, 0), (4, 2), (1, 3)]
        for corners in itertools.permutations(ring):
            self.assertIs(is_fence((1, list(corners), [])), list(corners) == ring, corners)

    def test_a_star_turns_left_everywhere(self):
        ring = [(0, 4), (2, 0), (8, 0), (10, 4), (5, 8)]
        star = [ring[2 * place % 5] for place in range(5)]
        self.assertTrue(all(turn(star[k - 2], star[k - 1], star[k]) > 0 for k in range(5)))
        self.assertIs(is_fence((1, ring, [])), True)
        self.assertIs(is_fence((1, star, [])), False)

    def test_a_way_that_goes_round_twice(self):
        triangle = [(0, 0), (1, 0), (0, 1)]
        self.assertIs(is_fence((1, triangle * 2, [])), False)

    def test_ten_and_eleven_corners(self):
        self.assertIs(is_fence((1, RING, list(range(10)))), True)
        eleven = [(x, x * x) for x in range(11)]
        self.assertEqual(len(plain_hull(eleven)), 11)
        self.assertIs(is_fence((1, eleven, [])), False)

    def test_three_corners_nearly_on_one_line(self):
        self.assertIs(is_fence((1, [(-FAR, -FAR), (1, 0), (FAR, FAR)], [])), True)
        self.assertIs(is_fence((1, [(-FAR, -FAR), (0, 0), (FAR, FAR)], [])), False)
        self.assertIs(is_fence((1, [(-FAR, -FAR), (0, 1), (FAR, FAR)], [])), False)


class TestFenceOf(unittest.TestCase):
    def test_against_a_plain_hull(self):
        source = random.Random(7)
        for reach in (1, 2, 3, 6, 40):
            for many in range(1, 21):
                points = [(source.randint(-reach, reach), source.randint(-reach, reach)) for _ in range(many)]
                corners = plain_hull(points)
                with self.subTest(points=points):
                    if len(corners) > 10:
                        with self.assertRaises(Impossible):
                            fence_of(3, points)
                    else:
                        self.assertEqual(fence_of(3, points), (3, corners, []))
                        self.assertIs(is_fence(fence_of(3, points)), True)

    def test_one_point(self):
        self.assertEqual(fence_of(30, [(FAR, -FAR)]), (30, [(FAR, -FAR)], []))
        self.assertEqual(fence_of(1, [(4, 5)] * 20), (1, [(4, 5)], []))

    def test_points_on_one_line(self):
        self.assertEqual(fence_of(1, [(x, 3 - 2 * x) for x in range(20)]), (1, [(0, 3), (19, -35)], []))
        self.assertEqual(fence_of(1, [(7, 7 - y) for y in range(20)]), (1, [(7, -12), (7, 7)], []))
        self.assertEqual(fence_of(1, [(FAR, FAR), (0, 0), (-FAR, -FAR)]), (1, [(-FAR, -FAR), (FAR, FAR)], []))

    def test_points_on_sides(self):
        square = [(x, y) for x in range(4) for y in range(4) if x in (0, 3) or y in (0, 3)]
        self.assertEqual(fence_of(2, square), (2, [(0, 0), (3, 0), (3, 3), (0, 3)], []))
        self.assertEqual(fence_of(2, square[::-1]), (2, [(0, 0), (3, 0), (3, 3), (0, 3)], []))

    def test_hulls_of_ten_and_of_eleven_corners(self):
        ten = [(x, x * x) for x in range(10)]
        inner = [(5, 40), (4, 30), (6, 50), (5, 44)]
        self.assertEqual(fence_of(1, (ten + inner)[::-1]), (1, ten, []))
        self.assertEqual(fence_of(1, RING * 2), (1, RING, []))
        for more in (11, 20):
            with self.assertRaises(Impossible) as caught:
                fence_of(1, [(x, x * x) for x in range(more)])
            self.assertIs(caught.exception.__class__, Impossible)

    def test_far_points(self):
        corners = [(-FAR, -FAR), (FAR, -FAR), (FAR, FAR), (-FAR, FAR)]
        self.assertEqual(fence_of(30, corners[::-1] + [(0, 0), (FAR, 0), (FAR - 1, FAR - 1)]), (30, corners, []))


class TestOtherFences(unittest.TestCase):
    def test_lowest(self):
        self.assertEqual(lowest_fence(POINT), (6, [(3, 2)], []))
        self.assertEqual(lowest_fence((6, [(4, 2)], [])), (3, [(2, 1)], []))
        self.assertEqual(lowest_fence((30, [(0, 0)], [])), (1, [(0, 0)], []))
        self.assertEqual(lowest_fence(STRETCH), STRETCH)
        self.assertEqual(lowest_fence(FIELD), (1, [(-1, 0), (1, -1), (2, 0), (0, 2)], [0, 2]))
        self.assertEqual(lowest_fence((30, [(-FAR, FAR)], [])), (3, [(-FAR // 10, FAR // 10)], []))

    def test_lowest_is_the_least_bottom(self):
        for fence in some_fences(3, 200, 12, range(1, 31), (1, 1, 2, 3, 5)):
            bottom, corners, sides = fence
            spots = [(Fraction(x, bottom), Fraction(y, bottom)) for x, y in corners]
            least = next(
                low for low in range(1, 31)
                if all((low * x).denominator == 1 and (low * y).denominator == 1 for x, y in spots)
            )
            self.assertEqual(lowest_fence(fence), (least, [(int(least * x), int(least * y)) for x, y in spots], sides))

    def test_open_sides(self):
        for fence in (POINT, STRETCH, FIELD, (1, RING, [0, 9]), (1, RING, [])):
            bottom, corners, sides = fence
            total = 0 if len(corners) == 1 else len(corners)
            self.assertEqual(closed_fence(fence), (bottom, corners, []))
            self.assertEqual(shut_fence(fence), (bottom, corners, list(range(total))))
            turned = turned_fence(fence)
            self.assertEqual(turned[:2], (bottom, corners))
            self.assertEqual(sorted(turned[2] + sides), list(range(total)))
            self.assertEqual(turned[2], sorted(turned[2]))
            self.assertEqual(turned_fence(turned), fence)

    def test_kind(self):
        self.assertEqual([fence_kind(fence) for fence in (POINT, STRETCH, FIELD)], ["point", "stretch", "field"])
        self.assertEqual(fence_kind((1, RING, [])), "field")

    def test_same(self):
        for factor in (1, 2, 5):
            bigger = (4 * factor, [(factor * x, factor * y) for x, y in FIELD[1]], [0, 2])
            self.assertIs(are_same(FIELD, bigger), True)
            self.assertIs(are_same(closed_fence(FIELD), bigger), False)
        self.assertIs(are_same((2, [(1, 0)], []), (30, [(15, 0)], [])), True)
        self.assertIs(are_same((2, [(1, 0)], []), (30, [(16, 0)], [])), False)
        self.assertIs(are_same(STRETCH, POINT), False)

    def test_same_by_points_of_the_plane(self):
        grid = [(x, y) for x in range(3) for y in range(2)]
        fences = []
        for many in (1, 2, 3):
            for chosen in itertools.combinations(grid, many):
                corners = plain_hull(chosen)
                if len(corners) == many:
                    fences.extend(all_sides(2, corners) + all_sides(1, corners))
        fine = [(Fraction(x, 12), Fraction(y, 12)) for x in range(25) for y in range(13)]
        points = [[place for place in fine if plain_holds(fence, 1, place)] for fence in fences[::3]]
        for one, here in zip(fences[::3], points):
            for two, there in zip(fences[::3], points):
                self.assertIs(are_same(one, two), here == there, (one, two))

    def test_area(self):
        self.assertEqual([fence_area(fence) for fence in (POINT, STRETCH)], [(0, 1), (0, 1)])
        self.assertEqual(fence_area((1, [(-FAR, -FAR), (FAR, FAR)], [])), (0, 1))
        self.assertEqual(fence_area((1, [(0, 0), (1, 0), (0, 1)], [0, 1, 2])), (1, 2))
        self.assertEqual(fence_area((30, [(0, 0), (1, 0), (0, 1)], [])), (1, 1800))
        self.assertEqual(fence_area((1, [(-FAR, -FAR), (FAR, -FAR), (FAR, FAR), (-FAR, FAR)], [])), (4 * FAR * FAR, 1))
        for fence in some_fences(5, 100, 9, range(1, 31), (3, 4, 7)):
            bottom, corners, _ = fence
            double = sum(turn(corners[0], corners[k - 1], corners[k]) for k in range(1, len(corners)))
            area = Fraction(double, 2 * bottom * bottom)
            top, below = fence_area(fence)
            self.assertEqual((top, below), (area.numerator, area.denominator))
            self.assertEqual(math.gcd(top, below), 1)


if __name__ == "__main__":
    unittest.main()
