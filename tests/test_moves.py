"""[9] and [19]: moves, the fences to which they lead, and the moves between fields, against plain ways."""

import itertools
import random
import unittest
from fractions import Fraction

from far_fences import FAR, RING, SHEARS
from plain import all_sides, led, plain_holds, plain_stakes, some_fences
from plain_rules import TEN, plain_lowest

from growfences.counts import stake_count
from growfences.errors import Impossible
from growfences.fences import are_same, closed_fence, is_fence
from growfences.moves import inverse_move, is_move, joined_move, move_between, moved_fence, own_moves

STILL = (1, 0, 0, 1, 0, 0)
SMALL_MOVES = [
    (a, b, c, d, e, f) for a, b, c, d in itertools.product(range(-2, 3), repeat=4) if a * d - b * c in (1, -1)
    for e, f in ((0, 0), (1, -2), (-3, 5))
]
# The bound is wide enough for fields whose corners are from 0 to 2 over any bottom.
MATRICES = [part for part in itertools.product(range(-8, 9), repeat=4) if part[0] * part[3] - part[1] * part[2] in (1, -1)]
LONG = 10 ** 199 + 7
WHOLE = (1, [(0, 0), (1, 0), (0, 1)], [])
SQUARE = (1, [(0, 0), (1, 0), (1, 1), (0, 1)], [])
SIX = (1, [(-1, -1), (0, -1), (1, 0), (1, 1), (0, 1), (-1, 0)], [])


def long_moves():
    """Moves with numbers of up to 200 digits."""
    return [
        (1, LONG, 0, 1, 0, 0), (1, 0, -LONG, 1, LONG, -LONG), (LONG, 1, -1, 0, 5, LONG), (0, 1, 1, LONG, -1, 1),
        (10 ** 90 + 1, 10 ** 90, 1, 1, -LONG, 3), (-1, 0, 0, 1, LONG, LONG),
    ]


def led_point(move, point):
    a, b, c, d, e, f = move
    x, y = point
    return (a * x + b * y + e, c * x + d * y + f)


def plain_steps(corners):
    """The ways from a corner to each of its neighbours."""
    ways = list(zip(corners, corners[1:] + corners[:1]))
    steps = [(head[0] - tail[0], head[1] - tail[1]) for tail, head in ways]
    return {step for x, y in steps for step in ((x, y), (-x, -y))}


def plain_moves(fence, other):
    """All moves that lead a field onto another one, by all matrices of a box and all ends of the first corner."""
    low = [plain_lowest(one) for one in (fence, other)]
    if low[0] != low[1]:
        return []
    one, two = [
        (low[0], [(x * low[0] // field[0], y * low[0] // field[0]) for x, y in field[1]], field[2]) for field in (fence, other)
    ]
    (x, y), (next_x, next_y) = one[1][:2]
    steps, found = plain_steps(two[1]), []
    for a, b, c, d in MATRICES:
        if (a * (next_x - x) + b * (next_y - y), c * (next_x - x) + d * (next_y - y)) not in steps:
            continue
        for to_x, to_y in two[1]:
            e, f = Fraction(to_x - a * x - b * y, low[0]), Fraction(to_y - c * x - d * y, low[0])
            if e.denominator == f.denominator == 1:
                move = (a, b, c, d, int(e), int(f))
                if led(one, move) == two:
                    found.append(move)
    return sorted(found)


def grid_fields():
    """Fields with corners from 0 to 2 over some bottoms, with some choices of open sides."""
    grid = [(x, y) for x in range(3) for y in range(3)]
    shapes = []
    for many in (3, 4):
        for chosen in itertools.permutations(grid, many):
            if is_fence((1, list(chosen), [])):
                shapes.append(list(chosen))
    source = random.Random(81)
    source.shuffle(shapes)
    fields = []
    for number, corners in enumerate(shapes[:36]):
        choices = all_sides(1 + number % 4, corners)
        fields.extend([choices[0], choices[source.randrange(len(choices))]])
    return fields


class TestIsMove(unittest.TestCase):
    def test_all_small_tuples(self):
        for parts in itertools.product(range(-2, 3), repeat=4):
            a, b, c, d = parts
            self.assertIs(is_move(parts + (7, -9)), a * d - b * c in (1, -1), parts)

    def test_long_numbers(self):
        for move in long_moves():
            self.assertIs(is_move(move), True)
            self.assertIs(is_move(tuple(list(move[:3]) + [move[3] + 1] + list(move[4:]))), move[0] == 0)
        self.assertIs(is_move((LONG, LONG, LONG, LONG, 0, 0)), False)
        self.assertIs(is_move((LONG, LONG + 1, LONG + 1, LONG + 2, 0, 0)), True)
        self.assertIs(is_move((LONG, LONG + 1, LONG + 1, LONG + 3, 0, 0)), False)

    def test_other_values(self):
        for spot in range(6):
            for part in (True, False, 1.0, "1", None, (1,), [1], Fraction(1)):
                self.assertIs(is_move(STILL[:spot] + (part,) + STILL[spot + 1:]), False)
        for value in (STILL[:5], STILL + (0,), list(STILL), (), [], 1, None, "100100", {STILL}, (STILL,), STILL[:4]):
            self.assertIs(is_move(value), False)


class TestMovedFence(unittest.TestCase):
    def test_against_a_plain_way(self):
        fences = some_fences(82, 60, 5, (1, 2, 3, 7, 30), (1, 2, 2, 3, 3, 4, 6, 12))
        for fence in fences + [(30, TEN, [0, 3, 9])]:
            for move in SMALL_MOVES[::11] + [(17, 12, 7, 5, 4, -4), (-99, 98, 100, -99, 0, 1)]:
                there = moved_fence(fence, move)
                self.assertEqual(there, led(fence, move), (fence, move))
                self.assertIs(is_fence(there), True)

    def test_each_choice_of_open_sides(self):
        shapes = ([(1, 2)], [(0, 1), (2, 0)], [(1, -1), (1, 2)], [(0, 0), (2, 0), (0, 1)], [(0, 0), (2, -1), (3, 1), (1, 1)])
        for corners in shapes:
            for fence in all_sides(2, corners):
                for move in SMALL_MOVES[::5]:
                    there = moved_fence(fence, move)
                    self.assertEqual(there, led(fence, move))
                    self.assertEqual(there[0], 2)
                    self.assertEqual(moved_fence(there, inverse_move(move)), fence)

    def test_by_points_of_the_plane(self):
        fine = [(Fraction(x, 4), Fraction(y, 4)) for x in range(-5, 10) for y in range(-5, 10)]
        for fence in some_fences(83, 25, 3, (2, 4), (1, 2, 3, 4)):
            for move in ((0, 1, 1, 0, 1, 0), (1, 1, 0, 1, -2, 1), (-1, 0, 0, -1, 0, 3), (2, 1, 1, 1, 0, 0), (-1, 2, 0, 1, 1, 1)):
                there = moved_fence(fence, move)
                for point in fine:
                    self.assertIs(plain_holds(fence, 1, point), plain_holds(there, 1, led_point(move, point)))

    def test_stakes_are_led_to_stakes(self):
        for fence in some_fences(84, 20, 4, (1, 2, 3), (1, 2, 3, 5)):
            for a, b, c, d, e, f in SMALL_MOVES[::37]:
                for size in (1, 2, 3):
                    stakes = [led_point((a, b, c, d, size * e, size * f), stake) for stake in plain_stakes(fence, size)]
                    there = plain_stakes(moved_fence(fence, (a, b, c, d, e, f)), size)
                    self.assertEqual(sorted(stakes), sorted(there))

    def test_counts_stay(self):
        for fence in some_fences(85, 20, 4, (1, 2, 3, 30), (1, 2, 3, 5)):
            for move in SHEARS + tuple(SMALL_MOVES[::41]):
                for size in (1, 2, 30, FAR):
                    self.assertEqual(stake_count(moved_fence(fence, move), size), stake_count(fence, size))

    def test_just_to_the_end_of_the_range(self):
        for bottom in (1, 30):
            part = FAR // bottom
            for sign in (1, -1):
                point = (bottom, [(0, sign * (FAR - bottom * part))], [])
                self.assertEqual(moved_fence(point, (1, 0, 0, 1, 0, sign * part)), (bottom, [(0, sign * FAR)], []))
                self.assertEqual(moved_fence(point, (0, 1, 1, 0, sign * part, 0)), (bottom, [(sign * FAR, 0)], []))
                for move in ((1, 0, 0, 1, 0, sign * (part + 1)), (0, 1, -1, 0, sign * (part + 1), 0)):
                    with self.assertRaises(Impossible):
                        moved_fence(point, move)
        for sides in ([], [1], [0, 1, 2]):
            field = (1, [(0, 0), (FAR, 0), (0, 1)], sides)
            self.assertEqual(moved_fence(field, (1, -FAR, 0, 1, 0, 0)), led(field, (1, -FAR, 0, 1, 0, 0)))
            for move in ((1, -FAR - 1, 0, 1, 0, 0), (1, FAR + 1, 0, 1, 0, 0), (1, 0, 0, 1, 1, 0), (0, 1, 1, 0, 0, 1)):
                with self.assertRaises(Impossible):
                    moved_fence(field, move)
            self.assertEqual(moved_fence(field, (1, 0, 0, 1, -FAR, FAR - 1))[1], [(-FAR, FAR - 1), (0, FAR - 1), (-FAR, FAR)])
            with self.assertRaises(Impossible):
                moved_fence(field, (1, 0, 0, 1, 0, FAR))

    def test_long_moves(self):
        for move in long_moves():
            self.assertEqual(moved_fence((7, [(0, 0)], []), move[:4] + (0, 0)), (7, [(0, 0)], []))
        with self.assertRaises(Impossible):
            moved_fence((7, [(0, 1)], []), (1, LONG, 0, 1, 0, 0))
        with self.assertRaises(Impossible):
            moved_fence((7, [(0, 0)], []), (1, 0, 0, 1, 0, -LONG))
        self.assertEqual(moved_fence((7, [(5, 0)], []), (1, LONG, 0, 1, 0, 0)), (7, [(5, 0)], []))
        # Far numbers that take each other back.
        self.assertEqual(moved_fence((1, [(3, 2)], []), (1, LONG, 0, 1, -2 * LONG, 0)), (1, [(3, 2)], []))
        with self.assertRaises(Impossible):
            moved_fence((1, [(3, 2)], []), (1, LONG, 0, 1, FAR - 2 - 2 * LONG, 0))

    def test_ten_far_corners(self):
        for sides in ([], [0], [9], [2, 3, 7], list(range(10))):
            field = (30, RING, sides)
            for move in ((0, 1, 1, 0, 0, 0), (0, -1, 1, 0, 0, 0), (-1, 0, 0, -1, 0, 0), (1, 0, 0, -1, 0, 0)):
                self.assertEqual(moved_fence(field, move), led(field, move))


class TestJoinedAndInverse(unittest.TestCase):
    def test_joined_leads_as_one_and_then_the_other(self):
        points = [(0, 0), (1, 0), (0, 1), (-7, 5)]
        moves = SMALL_MOVES[::17] + long_moves()
        for one, two in itertools.product(moves, moves):
            joined = joined_move(one, two)
            self.assertIs(is_move(joined), True)
            for point in points:
                self.assertEqual(led_point(joined, point), led_point(two, led_point(one, point)))

    def test_inverse_leads_back(self):
        for move in SMALL_MOVES + long_moves():
            back = inverse_move(move)
            self.assertIs(is_move(back), True)
            self.assertEqual((joined_move(move, back), joined_move(back, move)), (STILL, STILL))
            self.assertEqual(inverse_move(back), move)

    def test_answers_are_arguments(self):
        move = STILL
        for number in range(8):
            move = joined_move(move, long_moves()[number % 6])
            self.assertIs(is_move(move), True)
            self.assertEqual(joined_move(move, inverse_move(move)), STILL)

    def test_fences_are_led_by_both(self):
        for fence in some_fences(86, 20, 4, (1, 3), (1, 2, 3, 4)):
            for one, two in itertools.product(SMALL_MOVES[::53], SMALL_MOVES[::47]):
                self.assertEqual(moved_fence(moved_fence(fence, one), two), moved_fence(fence, joined_move(one, two)))


class TestMovesBetween(unittest.TestCase):
    def test_against_all_small_moves(self):
        fields = grid_fields()
        several = 0
        for number, field in enumerate(fields):
            own = plain_moves(field, field)
            several += len(own) > 1
            self.assertEqual(own_moves(field), own, field)
            for other in fields[number % 7::9]:
                moves = plain_moves(field, other)
                self.assertEqual(move_between(field, other), moves[0] if moves else None, (field, other))
            for move in SMALL_MOVES[number % 5::29]:
                other = moved_fence(field, move)
                best = move_between(field, other)
                self.assertEqual(moved_fence(field, best), other)
                self.assertEqual(best, min(joined_move(mine, move) for mine in own))
        self.assertTrue(20 < several < len(fields))

    def test_least_moves_between_fields_of_one_shape(self):
        shapes = {}
        for field in grid_fields():
            shapes.setdefault((field[0], len(field[1]), len(field[2])), []).append(field)
        found = 0
        for group in shapes.values():
            for one, two in itertools.product(group, group):
                moves = plain_moves(one, two)
                found += len(moves) > 1
                self.assertEqual(move_between(one, two), moves[0] if moves else None, (one, two))
        self.assertGreater(found, 20)

    def test_how_many_own_moves(self):
        self.assertEqual([len(own_moves(field)) for field in (WHOLE, SQUARE, SIX)], [6, 8, 12])
        for field in (WHOLE, SQUARE, SIX):
            half = (field[0], field[1], [0])
            self.assertEqual(len(own_moves(half)), 2)
            self.assertEqual(own_moves(field[:2] + (list(range(len(field[1]))),)), own_moves(field))
        self.assertEqual(len(own_moves((1, SQUARE[1], [0, 2]))), 4)
        self.assertEqual(len(own_moves((1, SIX[1], [0, 2, 4]))), 6)
        self.assertEqual(len(own_moves((1, SIX[1], [0, 3]))), 4)
        for lonely in ((1, [(0, 0), (2, 0), (3, 1), (0, 5)], []), (1, TEN, []), (7, RING, []), (1, SIX[1], [0, 1, 3])):
            self.assertEqual(own_moves(lonely), [STILL])

    def test_a_move_of_the_shape_that_is_no_move_of_the_field(self):
        # Halves of stakes do not lead to stakes, so these fields of one shape are apart.
        self.assertEqual(len(own_moves((2, [(0, 0), (2, 0), (0, 2)], []))), 6)
        self.assertEqual(own_moves((2, [(1, 0), (3, 0), (1, 2)], [])), [(-1, -1, 0, 1, 2, 0), STILL])
        self.assertIs(move_between((2, [(0, 0), (2, 0), (0, 2)], []), (2, [(1, 0), (3, 0), (1, 2)], [])), None)
        self.assertIs(move_between((2, [(0, 0), (2, 0), (0, 2)], []), (2, [(1, 1), (3, 1), (1, 3)], [])), None)
        self.assertEqual(move_between((2, [(0, 0), (1, 0), (0, 1)], []), (2, [(0, 0), (1, 0), (1, 1)], [])), (1, 1, 0, 1, 0, 0))
        self.assertEqual(len(own_moves((3, [(0, 0), (1, 0), (0, 1)], []))), 2)
        self.assertEqual(len(own_moves((3, [(0, 0), (3, 0), (0, 3)], []))), 6)

    def test_own_moves_are_closed(self):
        far = moved_fence(SIX, SHEARS[3])
        for field in (WHOLE, SQUARE, SIX, far, moved_fence(SQUARE, SHEARS[1]), (2, [(0, 0), (4, 0), (2, 1)], [])):
            own = own_moves(field)
            self.assertEqual(own, sorted(set(own)))
            self.assertIn(STILL, own)
            for one, two in itertools.product(own, own):
                self.assertIn(joined_move(one, two), own)
            for move in own:
                self.assertIn(inverse_move(move), own)
                self.assertEqual(moved_fence(field, move), field)

    def test_fields_with_centre(self):
        for bottom in (1, 2, 30):
            corners = [(0, 0), (4, -3), (8, -4), (11, -3), (13, 0)]
            whole = corners + [(13 - x, 6 - y) for x, y in corners]
            field = (bottom, whole, [])
            self.assertIs(is_fence(field), True)
            fits = 13 % bottom == 0 and 6 % bottom == 0
            self.assertEqual(own_moves(field), [(-1, 0, 0, -1, 13 // bottom, 6 // bottom), STILL] if fits else [STILL])
            self.assertEqual(own_moves(field[:2] + ([0, 5],)), own_moves(field))
            self.assertEqual(own_moves(field[:2] + ([0, 4],)), [STILL])

    def test_far_fields(self):
        for field in (WHOLE, SQUARE, SIX, (30, TEN, [2, 3]), (2, [(0, 0), (4, 0), (2, 1)], [1]), (7, [(0, 0), (5, 1), (2, 3)], [])):
            own = own_moves(field)
            for move in SHEARS:
                other = moved_fence(field, move)
                best = move_between(field, other)
                self.assertEqual(best, min(joined_move(mine, move) for mine in own))
                self.assertEqual(len(own_moves(other)), len(own))
                self.assertEqual(sorted(joined_move(joined_move(inverse_move(move), mine), move) for mine in own), own_moves(other))
                back = move_between(other, field)
                self.assertEqual(moved_fence(other, back), field)

    def test_ten_far_corners(self):
        for bottom in (1, 29, 30):
            for sides in ([], [4], list(range(10))):
                field = (bottom, RING, sides)
                for move in ((0, 1, 1, 0, 0, 0), (0, -1, 1, 0, 0, 0), (-1, 0, 0, -1, 0, 0), STILL):
                    self.assertEqual(move_between(field, moved_fence(field, move)), move)
                near = (bottom, RING[:9] + [(RING[9][0], RING[9][1] + 1)], sides)
                self.assertIs(is_fence(near), True)
                self.assertIs(move_between(field, near), None)
                self.assertIs(move_between(field, (bottom, RING[:9], [])), None)

    def test_unlike_by_one_corner_or_one_side(self):
        for bottom in (1, 3, 30):
            field = (bottom, TEN, [1, 4])
            self.assertEqual(move_between(field, field), STILL)
            for other in ([1], [1, 5], [0, 1, 4], [], [2, 4]):
                self.assertIs(move_between(field, (bottom, TEN, other)), None)
                self.assertIs(move_between((bottom, TEN, other), field), None)
            for spot in range(10):
                self.assertIs(move_between(field, (bottom, TEN[:spot] + TEN[spot + 1:], [])), None)
        self.assertIs(move_between(SQUARE, (1, [(0, 0), (1, 0), (2, 1), (0, 1)], [])), None)
        self.assertIs(move_between(WHOLE, (1, WHOLE[1], [0])), None)
        self.assertEqual(move_between((1, WHOLE[1], [1]), (1, WHOLE[1], [0])), (0, 1, -1, -1, 0, 1))

    def test_bottoms_that_are_not_the_lowest(self):
        for field in (WHOLE, SQUARE, (2, [(0, 0), (4, 0), (2, 1)], [1]), (1, TEN, [0, 7])):
            for factor in (2, 5, 15):
                other = (field[0] * factor, [(factor * x, factor * y) for x, y in field[1]], field[2])
                self.assertEqual(own_moves(other), own_moves(field))
                self.assertEqual(move_between(field, other), own_moves(field)[0])
                shifted = moved_fence(other, (1, 1, 0, 1, 3, -5))
                self.assertEqual(move_between(other, shifted), move_between(field, shifted))
                self.assertIs(are_same(moved_fence(field, move_between(field, shifted)), shifted), True)
                self.assertEqual(move_between(shifted, field), move_between(shifted, other))
        self.assertIs(move_between(WHOLE, (2, WHOLE[1], [])), None)
        self.assertIs(move_between((30, WHOLE[1], []), (29, WHOLE[1], [])), None)

    def test_equal_counts_are_not_enough(self):
        lean = (2, [(0, 0), (4, 0), (2, 1)], [])
        self.assertIs(move_between(lean, WHOLE), None)
        self.assertIs(move_between(WHOLE, lean), None)

    def test_only_fields(self):
        point, stretch = (1, [(0, 0)], []), (1, [(0, 0), (1, 0)], [0])
        for one, two in ((point, WHOLE), (WHOLE, point), (stretch, WHOLE), (WHOLE, stretch), (point, point), (stretch, stretch)):
            with self.assertRaises(Impossible):
                move_between(one, two)
        for fence in (point, stretch):
            with self.assertRaises(Impossible):
                own_moves(fence)

    def test_kinds_of_answers(self):
        self.assertIs(move_between(WHOLE, WHOLE).__class__, tuple)
        self.assertEqual({part.__class__ for move in own_moves(SIX) for part in move}, {int})
        self.assertEqual([part.__class__ for part in moved_fence(closed_fence(SIX), STILL)], [int, list, list])
        self.assertEqual(sorted(move[0] * move[3] - move[1] * move[2] for move in own_moves(SIX)), [-1] * 6 + [1] * 6)


if __name__ == "__main__":
    unittest.main()
