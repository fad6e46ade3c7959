"""[3], [10], [11] and [12]: wrong arguments, one or several at once, by position and by name."""

import copy
import itertools
import unittest
from fractions import Fraction

from growfences import counts, errors, fences, places

FAR = 10 ** 30
FIELD = (2, [(0, 0), (2, 0), (0, 1)], [])
HUGE = 10 ** 5000

# Values of other kinds, which are wrong at each argument.
ODD = [
    None, True, False, 1.0, 0.5, float("nan"), float("inf"), Fraction(1), "", "1", "fence", b"1", {}, {1: 2}, {0}, object(),
    int, len, [[]], ((),), [None], (None,), 1j, range(3), frozenset(), NotImplemented,
]
INTEGERS = [0, 1, -1, HUGE, -HUGE]

NO_TUPLES_OF_THREE = [[], (), [2, FIELD[1], []], FIELD[:2], FIELD + ([],), (1, 2), "abc", {2: 1, 3: 2, 4: 5}, *INTEGERS]
WRONG_BOTTOMS = [0, 31, -1, HUGE, -HUGE, [1], (1,), [], ()]
SQUARE = [(0, 0), (1, 0), (1, 1), (0, 1)]
WRONG_CORNERS = [
    [], (), tuple(SQUARE), [[0, 0], [1, 0]], [(0, 0), (0, 0)], [(1, 0), (0, 0)], SQUARE[::-1], SQUARE[1:] + SQUARE[:1],
    SQUARE[:2] + SQUARE[3:] + SQUARE[2:3], [(0, 0), (1, 0), (2, 0), (0, 1)], [(0, 0), (2, 0), (1, 0)], [(0,)],
    [(0, 0, 0)], [(True, 0)], [(0, False)], [(0.0, 0)], [("0", 0)], [(FAR + 1, 0)], [(0, -FAR - 1)], [(HUGE, HUGE)],
    [(0, 0), (2, 0), (1, 1), (2, 2), (0, 2)], [(x, x * x) for x in range(11)], [(0, 0)] * 11, 1, HUGE, "0,0",
]
WRONG_SIDES = [(), (0,), [3], [-1], [0, 0], [1, 0], [0, 1, 2, 3], [True], [False], [0.0], ["0"], [HUGE], [-HUGE], 0, HUGE]


def wrong_fences():
    """Pairs of a value and the error for it."""
    pairs = [(value, errors.InvalidFence, {"part": None}) for value in ODD + NO_TUPLES_OF_THREE]
    for parts, field, spot in ((WRONG_BOTTOMS, "bottom", 0), (WRONG_CORNERS, "corners", 1), (WRONG_SIDES, "sides", 2)):
        for value in ODD + parts:
            fence = FIELD[:spot] + (value,) + FIELD[spot + 1:]
            pairs.append((fence, errors.InvalidFence, {"part": field}))
    # Several parts at once: the first one is told.
    pairs.append(((0, [], [9]), errors.InvalidFence, {"part": "bottom"}))
    pairs.append(((True, SQUARE, []), errors.InvalidFence, {"part": "bottom"}))
    pairs.append(((1, [], [9]), errors.InvalidFence, {"part": "corners"}))
    pairs.append(((1, [(0, 0)], [0]), errors.InvalidFence, {"part": "sides"}))
    pairs.append(((1, [(0, 0), (1, 0)], [0, 1, 2]), errors.InvalidFence, {"part": "sides"}))
    pairs.append(([0, [], [9]], errors.InvalidFence, {"part": None}))
    return pairs


def plain_errors(values, error):
    return [(value, error, {}) for value in values]


def wrong_points():
    """Values that are no list of points, with the index that is told."""
    pairs = [(value, None) for value in ODD if value not in ([[]], [None])]
    pairs += [([[]], 0), ([None], 0), ([], None), ((), None), (((0, 0),), None), ([(0, 0)] * 21, None), ([None] * 21, None)]
    pairs += [(0, None), (HUGE, None), ({(0, 0): 1}, None), ({(0, 0)}, None)]
    items = [*ODD, 1, HUGE, (0,), (0, 0, 0), [0, 0], (True, 0), (0, False), (0.0, 0), ("0", 0), (0, FAR + 1), (-FAR - 1, 0)]
    for item in items:
        pairs += [([item], 0), ([(0, 0), item], 1), ([(0, 0)] * 19 + [item], 19), ([(0, 0), item, item, (1, 1)], 1)]
    return [(value, errors.InvalidPoints, {"index": index}) for value, index in pairs]


SIZES = plain_errors([*ODD, 0, -1, FAR + 1, HUGE, -HUGE, [1], (1,), [], ()], errors.InvalidSize)
SIDES = plain_errors([*ODD, -1, 3, HUGE, -HUGE, [0], (0,), [], ()], errors.InvalidSide)
ROWS = plain_errors([*ODD, [1], (1,), [], ()], errors.InvalidNumber)
NO_POINTS = [
    *ODD, *INTEGERS, [0, 0], (0,), (0, 0, 0), (), [], (True, 0), (0, False), (0.0, 0), (0, 1.0), ("0", 0), (None, 0), (0, None),
    ((0, 0), 0), "00", {0: 0, 1: 1},
]
POINTS = plain_errors(NO_POINTS, errors.InvalidPoint)
STAKES = plain_errors([*NO_POINTS, (-1, 0), (0, 2), (2, 1), (HUGE, 0), (0, -HUGE)], errors.InvalidPoint)
INDEXES = plain_errors([*ODD, -1, 6, HUGE, -HUGE, [0], (0,), [], ()], errors.InvalidNumber)
FENCES = wrong_fences()
BOTTOMS = [(value, errors.InvalidFence, {"part": "bottom"}) for value in ODD + WRONG_BOTTOMS]

# Each function with its arguments: their names, valid values, and wrong ones.
FENCE, SIZE, ROW = ("fence", FIELD, FENCES), ("size", 3, SIZES), ("row", 0, ROWS)
CALLS = [
    (fences.fence_of, [("bottom", 2, BOTTOMS), ("points", [(0, 0), (1, 1)], wrong_points())]),
    (fences.lowest_fence, [FENCE]),
    (fences.closed_fence, [FENCE]),
    (fences.shut_fence, [FENCE]),
    (fences.turned_fence, [FENCE]),
    (fences.are_same, [FENCE, ("other", FIELD, FENCES)]),
    (fences.fence_kind, [FENCE]),
    (fences.fence_area, [FENCE]),
    (counts.stake_count, [FENCE, SIZE]),
    (counts.side_count, [FENCE, ("side", 2, SIDES), SIZE]),
    (counts.holds_stake, [FENCE, SIZE, ("point", (9, 9), POINTS)]),
    (counts.row_count, [FENCE, SIZE, ROW]),
    (counts.below_count, [FENCE, SIZE, ROW]),
    (places.nth_stake, [FENCE, SIZE, ("index", 5, INDEXES)]),
    (places.stake_index, [FENCE, SIZE, ("point", (1, 1), STAKES)]),
    (places.stake_rows, [FENCE, SIZE]),
    (places.row_stakes, [FENCE, SIZE, ROW]),
]


class TestWrongInputs(unittest.TestCase):
    def check_error(self, function, values, names, error, fields):
        for by_name in (False, True):
            with self.assertRaises(errors.FenceError) as caught:
                if by_name:
                    function(**dict(reversed(list(zip(names, values)))))
                else:
                    function(*values)
            self.assertIs(caught.exception.__class__, error)
            self.assertEqual(vars(caught.exception), fields)

    def test_valid_calls(self):
        for function, arguments in CALLS:
            names, values = [item[0] for item in arguments], [item[1] for item in arguments]
            self.assertEqual(function(*values), function(**dict(zip(names, values))), function)

    def test_one_wrong_argument(self):
        for function, arguments in CALLS:
            names, values = [item[0] for item in arguments], [item[1] for item in arguments]
            for spot, (_, _, wrong) in enumerate(arguments):
                for number, (value, error, fields) in enumerate(wrong):
                    with self.subTest(function=function.__name__, argument=names[spot], number=number):
                        given = values[:spot] + [value] + values[spot + 1:]
                        self.check_error(function, given, names, error, fields)

    def test_several_wrong_arguments(self):
        for function, arguments in CALLS:
            names, values = [item[0] for item in arguments], [item[1] for item in arguments]
            for one, two in itertools.combinations(range(len(arguments)), 2):
                for first, second in itertools.product(arguments[one][2][::5], arguments[two][2][::5]):
                    given = list(values)
                    given[one], given[two] = first[0], second[0]
                    self.check_error(function, given, names, first[1], first[2])

    def test_all_arguments_wrong(self):
        for function, arguments in CALLS:
            names = [item[0] for item in arguments]
            for number in range(0, 20):
                given = [item[2][number % len(item[2])] for item in arguments]
                self.check_error(function, [pair[0] for pair in given], names, given[0][1], given[0][2])

    def test_wrong_fences_are_no_fences(self):
        for value, _, _ in FENCES:
            self.assertIs(fences.is_fence(value), False)
            self.assertIs(fences.is_fence(value=value), False)
        self.assertIs(fences.is_fence(value=FIELD), True)

    def test_wrong_arguments_stay_as_they_were(self):
        for value in ((2, [(0, 0), (2, 0), (1, 0)], [0]), (2, [(0, 0), (2, 0), (0, 1)], [2, 1]), [2, [(0, 0)], []]):
            before = copy.deepcopy(value)
            with self.assertRaises(errors.InvalidFence):
                counts.stake_count(value, 1)
            self.assertEqual(value, before)


class TestExcludedValues(unittest.TestCase):
    def test_sides_that_are_none(self):
        for fence, total in (((1, [(0, 0)], []), 0), ((1, [(0, 0), (1, 0)], [1]), 2), ((1, SQUARE, [0]), 4)):
            for side in range(total):
                self.assertGreaterEqual(counts.side_count(fence, side, 1), 1)
            for side in (total, total + 1, -1, -total - 1, HUGE, -HUGE):
                with self.assertRaises(errors.InvalidSide):
                    counts.side_count(fence, side, 1)

    def test_a_wrong_side_is_told_ahead_of_a_wrong_size(self):
        with self.assertRaises(errors.InvalidSide):
            counts.side_count((1, [(0, 0)], []), 0, 0)
        with self.assertRaises(errors.InvalidSize):
            counts.side_count(FIELD, 0, 0)

    def test_places_that_do_not_belong(self):
        shut = FIELD[:2] + ([0, 1, 2],)
        for point in ((0, 0), (3, 0), (1, 1), (0, 1), (10 ** 199, 10 ** 199)):
            self.assertIs(counts.holds_stake(shut, 3, point), False)
            with self.assertRaises(errors.InvalidPoint):
                places.stake_index(shut, 3, point)

    def test_indexes_beyond_the_last_one(self):
        for fence in (FIELD, FIELD[:2] + ([2],), FIELD[:2] + ([0, 1, 2],), (6, [(3, 2)], []), (2, [(0, 1), (2, 1)], [0])):
            for size in (1, 2, 3, 6, FAR):
                total = counts.stake_count(fence, size)
                for index in (total, total + 1, -1, -total, 10 ** 199):
                    if not 0 <= index < total:
                        with self.assertRaises(errors.InvalidNumber):
                            places.nth_stake(fence, size, index)
                if total > 0:
                    self.assertIs(places.nth_stake(fence, size, total - 1).__class__, tuple)

    def test_impossible_comes_last(self):
        eleven = [(x, x * x) for x in range(11)]
        with self.assertRaises(errors.Impossible):
            fences.fence_of(1, eleven)
        with self.assertRaises(errors.InvalidFence):
            fences.fence_of(0, eleven)
        with self.assertRaises(errors.InvalidPoints):
            fences.fence_of(1, eleven + [(0, True)])


if __name__ == "__main__":
    unittest.main()
