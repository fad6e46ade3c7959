"""[3], [10] to [24], [28] and [29]: wrong arguments, one or several at once, by position and by name."""

import copy
import itertools
import unittest

from wrong_values import (
    BOTTOMS, CLOSED_FENCES, COUNTS, DIRECTIONS, FAR, FENCES, FIELD, FITS, HUGE, INDEXES, LASTS, LINES, LOOKS, MOVES, NUMBERS,
    OPEN_FENCES, POINTS, ROWS, RULE_SIZES, RULES, SEEN_BOTTOMS, SIDES, SIZES, SQUARE, STAKES, TEXTS, wrong_points,
)

from growfences import compare, counts, cuts, errors, fences, gaps, hulls, moves, places, rules, seen, sizes, texts, widths

# Each function with its arguments: their names, valid values, and wrong ones.
FENCE, SIZE, ROW = ("fence", FIELD, FENCES), ("size", 3, SIZES), ("row", 0, ROWS)
OTHER, NUMBER = ("other", FIELD, FENCES), ("number", 6, NUMBERS)
MOVE, DIRECTION, LINE = ("move", (2, 1, 1, 1, -3, 0), MOVES), ("direction", (2, -4), DIRECTIONS), ("line", (2, 0, 1), LINES)
CLOSED = ("fence", FIELD, CLOSED_FENCES)
BOTTOM, SEEN = ("bottom", 1, SEEN_BOTTOMS), ("looks", [(1, 6)], LOOKS)
RULE = [((1, 2), (-3, 2), (1, 1)), ((0, 1), (0, 1), (1, 30))]
CALLS = [
    (fences.fence_of, [("bottom", 2, BOTTOMS), ("points", [(0, 0), (1, 1)], wrong_points())]),
    (fences.lowest_fence, [FENCE]),
    (fences.closed_fence, [FENCE]),
    (fences.shut_fence, [FENCE]),
    (fences.turned_fence, [FENCE]),
    (fences.are_same, [FENCE, OTHER]),
    (fences.fence_kind, [FENCE]),
    (fences.fence_area, [FENCE]),
    (counts.stake_count, [FENCE, SIZE]),
    (counts.side_count, [FENCE, ("side", 2, SIDES), SIZE]),
    (counts.holds_stake, [FENCE, SIZE, ("point", (9, 9), POINTS)]),
    (counts.row_count, [FENCE, SIZE, ROW]),
    (counts.below_count, [FENCE, SIZE, ROW]),
    (places.nth_stake, [FENCE, SIZE, ("index", 5, INDEXES)]),
    (places.stake_index, [FENCE, SIZE, ("point", (1, 1), STAKES)]),
    (places.stake_rows, [FENCE, SIZE]),
    (places.row_stakes, [FENCE, SIZE, ROW]),
    (rules.counting_rule, [FENCE]),
    (rules.rule_period, [FENCE]),
    (rules.part_periods, [FENCE]),
    (rules.rule_count, [("rule", RULE, RULES), ("size", -3, RULE_SIZES)]),
    (rules.side_sizes, [FENCE]),
    (rules.rule_through, [("counts", [2, 4, 6, 9, 12, 16], COUNTS)]),
    (rules.series_row, [CLOSED]),
    (sizes.sizes_with, [FENCE, NUMBER]),
    (sizes.first_size, [FENCE, NUMBER]),
    (sizes.total_count, [FENCE, ("first", 2, SIZES), ("last", 5, SIZES)]),
    (gaps.size_step, [FENCE]),
    (gaps.has_stakes, [FENCE, SIZE]),
    (gaps.stake_sizes, [FENCE]),
    (gaps.empty_sizes, [FENCE]),
    (gaps.last_empty, [FENCE]),
    (compare.are_alike, [FENCE, OTHER]),
    (compare.parting_size, [FENCE, OTHER]),
    (compare.alike_sizes, [FENCE, OTHER]),
    (compare.first_fewer, [FENCE, OTHER]),
    (compare.fewer_sizes, [FENCE, OTHER]),
    (moves.moved_fence, [FENCE, MOVE]),
    (moves.joined_move, [MOVE, ("other", (0, 1, 1, 0, 5, 5), MOVES)]),
    (moves.inverse_move, [MOVE]),
    (moves.move_between, [FENCE, OTHER]),
    (moves.own_moves, [FENCE]),
    (widths.fence_width, [FENCE, DIRECTION]),
    (widths.line_number, [FENCE, SIZE, DIRECTION]),
    (widths.thin_directions, [FENCE]),
    (hulls.stake_hull, [FENCE, SIZE]),
    (hulls.inner_fence, [FENCE, SIZE]),
    (cuts.cut_fence, [CLOSED, LINE]),
    (cuts.cut_counts, [CLOSED, LINE, SIZE]),
    (seen.fits_count, [BOTTOM, SEEN]),
    (seen.nth_fit, [BOTTOM, SEEN, ("index", 3, FITS)]),
    (seen.clash_index, [BOTTOM, SEEN]),
    (seen.sure_counts, [BOTTOM, SEEN, ("last", 3, LASTS)]),
    (seen.telling_sizes, [BOTTOM, SEEN]),
    (texts.format_fence, [FENCE]),
    (texts.format_rule, [("rule", RULE, RULES)]),
    (texts.format_move, [MOVE]),
    (texts.parse_fence, [("text", "2: 0,0 2,0 0,1 / 0", TEXTS)]),
    (texts.parse_rule, [("text", "1/2 -3/2 1", TEXTS)]),
    (texts.parse_move, [("text", "0 1 1 0 0 0", TEXTS)]),
]


class TestWrongInputs(unittest.TestCase):
    def check_error(self, function, values, names, error, fields):
        for by_name in (False, True):
            with self.assertRaises(errors.FenceError) as caught:
                if by_name:
                    function(**dict(reversed(list(zip(names, values)))))
                else:
                    function(*values)
            self.assertIs(caught.exception.__class__, error)
            self.assertEqual(vars(caught.exception), fields)

    def test_valid_calls(self):
        for function, arguments in CALLS:
            names, values = [item[0] for item in arguments], [item[1] for item in arguments]
            self.assertEqual(function(*values), function(**dict(zip(names, values))), function)

    def test_one_wrong_argument(self):
        for function, arguments in CALLS:
            names, values = [item[0] for item in arguments], [item[1] for item in arguments]
            for spot, (_, _, wrong) in enumerate(arguments):
                for number, (value, error, fields) in enumerate(wrong):
                    with self.subTest(function=function.__name__, argument=names[spot], number=number):
                        given = values[:spot] + [value] + values[spot + 1:]
                        self.check_error(function, given, names, error, fields)

    def test_several_wrong_arguments(self):
        for function, arguments in CALLS:
            names, values = [item[0] for item in arguments], [item[1] for item in arguments]
            for one, two in itertools.combinations(range(len(arguments)), 2):
                for first, second in itertools.product(arguments[one][2][::5], arguments[two][2][::5]):
                    given = list(values)
                    given[one], given[two] = first[0], second[0]
                    self.check_error(function, given, names, first[1], first[2])

    def test_all_arguments_wrong(self):
        for function, arguments in CALLS:
            names = [item[0] for item in arguments]
            for number in range(0, 20):
                given = [item[2][number % len(item[2])] for item in arguments]
                self.check_error(function, [pair[0] for pair in given], names, given[0][1], given[0][2])

    def test_wrong_fences_are_no_fences(self):
        for value, _, _ in FENCES:
            self.assertIs(fences.is_fence(value), False)
            self.assertIs(fences.is_fence(value=value), False)
        self.assertIs(fences.is_fence(value=FIELD), True)

    def test_wrong_moves_are_no_moves(self):
        for value, _, _ in MOVES:
            self.assertIs(moves.is_move(value), False)
            self.assertIs(moves.is_move(value=value), False)
        self.assertIs(moves.is_move(value=MOVE[1]), True)

    def test_wrong_arguments_stay_as_they_were(self):
        for value in ((2, [(0, 0), (2, 0), (1, 0)], [0]), (2, [(0, 0), (2, 0), (0, 1)], [2, 1]), [2, [(0, 0)], []]):
            before = copy.deepcopy(value)
            with self.assertRaises(errors.InvalidFence):
                counts.stake_count(value, 1)
            self.assertEqual(value, before)


class TestExcludedValues(unittest.TestCase):
    def test_sides_that_are_none(self):
        for fence, total in (((1, [(0, 0)], []), 0), ((1, [(0, 0), (1, 0)], [1]), 2), ((1, SQUARE, [0]), 4)):
            for side in range(total):
                self.assertGreaterEqual(counts.side_count(fence, side, 1), 1)
            for side in (total, total + 1, -1, -total - 1, HUGE, -HUGE):
                with self.assertRaises(errors.InvalidSide):
                    counts.side_count(fence, side, 1)

    def test_a_wrong_side_is_told_ahead_of_a_wrong_size(self):
        with self.assertRaises(errors.InvalidSide):
            counts.side_count((1, [(0, 0)], []), 0, 0)
        with self.assertRaises(errors.InvalidSize):
            counts.side_count(FIELD, 0, 0)

    def test_places_that_do_not_belong(self):
        shut = FIELD[:2] + ([0, 1, 2],)
        for point in ((0, 0), (3, 0), (1, 1), (0, 1), (10 ** 199, 10 ** 199)):
            self.assertIs(counts.holds_stake(shut, 3, point), False)
            with self.assertRaises(errors.InvalidPoint):
                places.stake_index(shut, 3, point)

    def test_indexes_beyond_the_last_one(self):
        for fence in (FIELD, FIELD[:2] + ([2],), FIELD[:2] + ([0, 1, 2],), (6, [(3, 2)], []), (2, [(0, 1), (2, 1)], [0])):
            for size in (1, 2, 3, 6, FAR):
                total = counts.stake_count(fence, size)
                for index in (total, total + 1, -1, -total, 10 ** 199):
                    if not 0 <= index < total:
                        with self.assertRaises(errors.InvalidNumber):
                            places.nth_stake(fence, size, index)
                if total > 0:
                    self.assertIs(places.nth_stake(fence, size, total - 1).__class__, tuple)

    def test_a_fence_that_is_not_closed(self):
        for fence in OPEN_FENCES:
            self.assertIs(fences.is_fence(fence), True)
            self.assertEqual(rules.series_row(fence[:2] + ([],))[0], 1)
            wrong = (((31,) + fence[1:], "bottom"), (fence[:1] + ([],) + fence[2:], "corners"), (list(fence), None))
            for value, part in wrong:
                with self.assertRaises(errors.InvalidFence) as caught:
                    rules.series_row(value)
                self.assertEqual(caught.exception.part, part)

    def test_a_wrong_size_is_told_where_last_is_below_first(self):
        self.assertEqual(sizes.total_count(FIELD, FAR, 1), 0)
        for first, last in ((FAR, 0), (FAR + 1, 1), (1, 0), (0, 0), (FAR, -1), (2, True), (FAR + 1, FAR)):
            with self.assertRaises(errors.InvalidSize):
                sizes.total_count(FIELD, first, last)

    def test_sizes_of_rules_have_no_ends(self):
        for size in (0, -1, FAR + 1, -FAR, HUGE, -HUGE):
            self.assertEqual(rules.rule_count([((0, 1), (1, 1), (0, 1))], size), (size, 1))

    def test_rules_and_counts_at_their_ends(self):
        row = ((HUGE, 1), (-1, HUGE), (0, 1))
        self.assertEqual(rules.rule_count([row] * 30, 0), (0, 1))
        self.assertEqual(rules.rule_count([((0, 1), (0, 1), (-1, 2))], 7), (-1, 2))
        self.assertEqual(rules.rule_through([-HUGE, 0, HUGE])[0][1], (HUGE, 1))
        self.assertEqual(len(rules.rule_through([0] * 89 + [1])), 30)
        self.assertEqual(sizes.sizes_with((1, [(0, 0), (1, 0)], [0]), HUGE), [(HUGE, 1, 1)])
        self.assertEqual(sizes.first_size((1, [(0, 0), (1, 0)], [0]), HUGE), HUGE)

    def test_impossible_comes_behind_wrong_arguments(self):
        point, stretch, far = (1, [(0, 0)], []), (1, [(0, 0), (1, 0)], []), (1, [(FAR, 0)], [])
        out, tall = (1, 0, 0, 1, 1, 0), (1, [(0, 0), (1, 0), (0, FAR)], [])
        calls = (
            (moves.moved_fence, (far, out), [("fence", FENCES), ("move", MOVES)]),
            (moves.move_between, (point, stretch), [("fence", FENCES), ("other", FENCES)]),
            (moves.own_moves, (stretch,), [("fence", FENCES)]),
            (widths.thin_directions, (point,), [("fence", FENCES)]),
            (hulls.stake_hull, (tall, 1), [("fence", FENCES), ("size", SIZES)]),
            (hulls.inner_fence, (tall, FAR), [("fence", FENCES), ("size", SIZES)]),
            (cuts.cut_fence, (stretch, (1, 0, 0)), [("fence", CLOSED_FENCES), ("line", LINES)]),
            (cuts.cut_counts, (point, (1, 0, 0), 1), [("fence", CLOSED_FENCES), ("line", LINES), ("size", SIZES)]),
            (seen.sure_counts, (1, [(1, 9)], 3), [("bottom", SEEN_BOTTOMS), ("looks", LOOKS), ("last", LASTS)]),
            (seen.telling_sizes, (1, [(1, 9)]), [("bottom", SEEN_BOTTOMS), ("looks", LOOKS)]),
        )
        for function, values, wrong in calls:
            with self.assertRaises(errors.Impossible) as caught:
                function(*values)
            self.assertIs(caught.exception.__class__, errors.Impossible)
            for spot, (_, pairs) in enumerate(wrong):
                for value, error, fields in pairs[::3]:
                    given = values[:spot] + (value,) + values[spot + 1:]
                    with self.assertRaises(error) as caught:
                        function(*given)
                    self.assertEqual(vars(caught.exception), fields)

    def test_no_index_where_nothing_fits(self):
        for index in (0, 1, -1, HUGE):
            with self.assertRaises(errors.InvalidNumber):
                seen.nth_fit(1, [(1, 9)], index)
        with self.assertRaises(errors.InvalidNumber):
            seen.nth_fit(12, [], 76)
        self.assertEqual(seen.nth_fit(12, [], 75)[0], 12)

    def test_moves_directions_and_lines_without_ends(self):
        self.assertIs(moves.is_move((HUGE, 1, -1, 0, HUGE, -HUGE)), True)
        self.assertEqual(moves.inverse_move((1, HUGE, 0, 1, 0, 0)), (1, -HUGE, 0, 1, 0, 0))
        self.assertEqual(widths.fence_width(FIELD, (HUGE, 0)), (HUGE, 1))
        self.assertEqual(widths.line_number(FIELD, 2, (0, HUGE)), HUGE + 1)
        self.assertEqual(cuts.cut_counts(FIELD, (1, 0, HUGE), 3), (6, 0))
        self.assertEqual(cuts.cut_fence(FIELD, (0, -HUGE, HUGE)), (FIELD, None))
        self.assertEqual(cuts.cut_fence(FIELD, (0, HUGE, -1)), (None, FIELD))

    def test_impossible_comes_last(self):
        eleven = [(x, x * x) for x in range(11)]
        with self.assertRaises(errors.Impossible):
            fences.fence_of(1, eleven)
        with self.assertRaises(errors.InvalidFence):
            fences.fence_of(0, eleven)
        with self.assertRaises(errors.InvalidPoints):
            fences.fence_of(1, eleven + [(0, True)])


if __name__ == "__main__":
    unittest.main()
