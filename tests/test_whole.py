"""[1] to [4]: what several modules say of the same fences agrees, at small and at far sizes and corners."""

import itertools
import random
import unittest
from fractions import Fraction

from far_fences import FAR, RING, SHEARS
from plain import led, plain_stakes, some_fences
from plain_rules import SHORT, SMALL, STEEP, TEN, sizes_to

from growfences import errors
from growfences.compare import alike_sizes, are_alike, fewer_sizes, first_fewer, parting_size
from growfences.console import Console
from growfences.counts import below_count, holds_stake, row_count, side_count, stake_count
from growfences.cuts import cut_counts, cut_fence
from growfences.fences import (
    are_same, closed_fence, fence_area, fence_kind, fence_of, is_fence, lowest_fence, shut_fence, turned_fence,
)
from growfences.gaps import empty_sizes, has_stakes, last_empty, size_step, stake_sizes
from growfences.hulls import inner_fence, stake_hull
from growfences.live import LiveFarm
from growfences.moves import inverse_move, is_move, joined_move, move_between, moved_fence, own_moves
from growfences.places import nth_stake, row_stakes, stake_index, stake_rows
from growfences.rules import counting_rule, part_periods, rule_count, rule_period, rule_through, series_row, side_sizes
from growfences.seen import clash_index, fits_count, nth_fit, sure_counts, telling_sizes
from growfences.sizes import first_size, sizes_with, total_count
from growfences.texts import format_fence, format_move, format_rule, parse_fence, parse_move, parse_rule
from growfences.widths import fence_width, line_number, thin_directions

NEAR = SMALL[::8] + STEEP[::5] + [fence for fence, _ in SHORT[::2]]
NEAR += some_fences(161, 15, 6, (1, 2, 3, 5, 6, 30), (1, 2, 3, 4, 7))
OUT = [(bottom, RING, sides) for bottom in (1, 7, 30) for sides in ([], [0, 9], list(range(10)))]
OUT += [led(fence, move) for fence in NEAR[::6] for move in SHEARS[:4]] + [(30, [(1 - FAR, FAR)], []), (29, [(-FAR, -FAR), (FAR, FAR)], [1])]
SIZES = (1, 2, 3, 6, 7, 29, 30, 10 ** 9 + 7, FAR - 1, FAR)


def whole(pair):
    """The integer that a fraction is."""
    assert pair[1] == 1, pair
    return pair[0]


class TestCountsAndRules(unittest.TestCase):
    def test_rules_tell_the_counts(self):
        for fence in NEAR + OUT:
            rule, turned = counting_rule(fence), turned_fence(fence)
            text = format_rule(rule)
            self.assertEqual((len(rule), parse_rule(text)), (rule_period(fence), rule))
            self.assertEqual(lowest_fence(fence)[0] % len(rule), 0)
            sign = -1 if fence_kind(fence) == "stretch" else 1
            for size in SIZES:
                count = stake_count(fence, size)
                self.assertEqual(rule_count(rule, size), (count, 1))
                self.assertEqual(rule_count(rule, -size), (sign * stake_count(turned, size), 1))
                self.assertIs(has_stakes(fence, size), count > 0)
                self.assertEqual(row_sum(fence, size), count)

    def test_rules_through_the_first_counts(self):
        for fence in NEAR + OUT[::3]:
            bottom = lowest_fence(fence)[0]
            counts = [stake_count(fence, size) for size in range(1, 3 * bottom + 1)]
            self.assertEqual(rule_through(counts), counting_rule(fence))
            self.assertEqual(total_count(fence, 1, 3 * bottom), sum(counts))
            closed = closed_fence(fence)
            times = {"point": 1, "stretch": 2, "field": 3}[fence_kind(fence)]
            row = series_row(closed)
            self.assertEqual(len(row), times * bottom)
            self.assertGreaterEqual(min(row), 0)
            area = {"field": 2 * bottom * bottom * Fraction(*fence_area(fence))}.get(fence_kind(fence))
            if area is not None:
                self.assertEqual(sum(row), area * bottom)

    def test_squares_are_the_area(self):
        for fence in NEAR + OUT:
            rule = counting_rule(fence)
            self.assertEqual({row[0] for row in rule}, {fence_area(fence)})
            self.assertEqual(part_periods(fence)[0], 1)
            if fence_kind(fence) == "field":
                repeat = part_periods(fence)[1]
                sizes = side_sizes(lowest_fence(fence))
                lines = 1
                while any(lines % size for size in sizes):
                    lines += 1
                self.assertEqual(lines % repeat, 0)

    def test_open_sides_take_their_stakes(self):
        for fence in NEAR + OUT[:9]:
            bottom, corners, _ = fence
            for side in range(len(corners) if len(corners) > 1 else 0):
                for size in (1, 6, FAR):
                    less = stake_count((bottom, corners, []), size) - stake_count((bottom, corners, [side]), size)
                    self.assertEqual(less, side_count(fence, side, size))
            self.assertGreaterEqual(stake_count(closed_fence(fence), 6), stake_count(fence, 6))
            self.assertGreaterEqual(stake_count(fence, 6), stake_count(shut_fence(fence), 6))

    def test_sizes_with_a_stake(self):
        for fence in NEAR:
            last, step = 4 * lowest_fence(fence)[0], size_step(fence)
            empty = [size for size in range(1, last + 1) if not has_stakes(fence, size)]
            self.assertEqual([size for size in empty if size % step == 0], [size for size in empty_sizes(fence) if size <= last])
            self.assertEqual(last_empty(fence), max(empty_sizes(fence), default=0))
            self.assertEqual(sizes_to(sizes_with(fence, 0), last), empty)
            self.assertEqual(first_size(fence, 1), min(stake_sizes(fence)))
            self.assertTrue(all(has_stakes(fence, size) for size in stake_sizes(fence)))
            self.assertTrue(all(size % step == 0 for size in stake_sizes(fence)))


def row_sum(fence, size):
    """The count by the rows: of all of them where they are few, else by halves."""
    rows = stake_rows(fence, size)
    if rows is None:
        return 0
    low, high = rows
    if high - low <= 60:
        return sum(row_count(fence, size, row) for row in range(low, high + 1))
    middle = (low + high) // 2
    return below_count(fence, size, middle - 1) + row_count(fence, size, middle) + (
        below_count(fence, size, high) - below_count(fence, size, middle))


class TestPlacesAndHulls(unittest.TestCase):
    def test_places_rows_and_hulls(self):
        for fence in NEAR:
            for size in (1, 3, 6):
                stakes = plain_stakes(fence, size)
                self.assertEqual([nth_stake(fence, size, index) for index in range(len(stakes))], stakes)
                self.assertEqual([stake_index(fence, size, stake) for stake in stakes], list(range(len(stakes))))
                hull = stake_hull(fence, size)
                self.assertTrue(set(hull) <= set(stakes))
                self.assertTrue(all(holds_stake(fence, size, corner) for corner in hull))
                rows = stake_rows(fence, size)
                self.assertEqual(rows, (min(y for _, y in hull), max(y for _, y in hull)) if hull else None)
                for row in range(*rows) if rows else ():
                    ends = row_stakes(fence, size, row)
                    self.assertEqual(ends, (min(x for x, y in stakes if y == row), max(x for x, y in stakes if y == row)) if ends else None)
                if 0 < len(hull) <= 10:
                    inner = inner_fence(fence, size)
                    self.assertEqual(fence_of(1, stakes[:20]) if len(stakes) <= 20 else inner, inner)
                    self.assertEqual(stake_count(inner, 1), len(stakes) if len(fence[1]) > 2 else stake_count(inner, 1))
                    self.assertEqual(parse_fence(format_fence(inner)), inner)

    def test_lines_that_meet(self):
        for fence in NEAR + OUT:
            for size in (1, 6, FAR):
                rows = stake_rows(fence, size)
                number = line_number(fence, size, (0, 1))
                if rows is not None:
                    self.assertLessEqual(rows[1] - rows[0] + 1, number)
                top, bottom = fence_width(fence, (0, 1))
                self.assertTrue(size * top - bottom < number * bottom <= size * top + bottom)


class TestMovesAndCuts(unittest.TestCase):
    def test_moves_keep_what_is_no_matter_of_places(self):
        for fence in NEAR:
            for move in SHEARS[:4] + ((2, 1, 1, 1, 3, -3), (0, -1, 1, 0, 0, 1)):
                there = moved_fence(fence, move)
                self.assertIs(is_fence(there), True)
                self.assertEqual(counting_rule(there), counting_rule(fence))
                self.assertIs(are_alike(fence, there), True)
                self.assertEqual((parting_size(fence, there), first_fewer(fence, there), fewer_sizes(there, fence)), (None, None, []))
                self.assertEqual(stake_sizes(there), stake_sizes(fence))
                self.assertEqual((fence_area(there), fence_kind(there)), (fence_area(fence), fence_kind(fence)))
                self.assertIs(are_same(moved_fence(there, inverse_move(move)), fence), True)
                if fence_kind(fence) == "field":
                    best = move_between(fence, there)
                    self.assertIs(are_same(moved_fence(fence, best), there), True)
                    self.assertLessEqual(best, move)
                    self.assertIn(joined_move(best, inverse_move(move)), own_moves(fence))
                    self.assertEqual(thin_directions(there)[0], thin_directions(fence)[0])
                    self.assertEqual(len(thin_directions(there)[1]), len(thin_directions(fence)[1]))
                self.assertEqual(parse_move(format_move(move)), move)
                self.assertEqual(parse_fence(format_fence(there)), there)

    def test_cuts_part_the_stakes(self):
        lines = ((1, 0, 0), (2, 1, 1), (1, -1, 0), (0, 3, 2), (-1, 2, -1))
        for fence in NEAR + OUT:
            field = closed_fence(fence)
            if fence_kind(field) != "field":
                continue
            for line in lines:
                for size in (1, 4, 30, FAR):
                    low, high = cut_counts(field, line, size)
                    self.assertEqual(low + high, stake_count(field, size))
                    if size == 4 and fence in NEAR:
                        a, b, c = line
                        self.assertEqual(low, sum(a * x + b * y <= 4 * c for x, y in plain_stakes(field, 4)))
                try:
                    parts = cut_fence(field, line)
                except errors.Impossible:
                    continue
                counts = [0 if part is None else stake_count(part, 6) for part in parts]
                self.assertEqual(tuple(counts), cut_counts(field, line, 6))
                for part in parts:
                    if part is not None:
                        self.assertEqual((is_fence(part), lowest_fence(part)), (True, part))
                        self.assertEqual(whole(rule_count(counting_rule(part), 30)), stake_count(part, 30))
                if None not in parts:
                    self.assertEqual(first_size(parts[0], 1), min(stake_sizes(parts[0])))

    def test_rows_are_cuts(self):
        for fence in NEAR + OUT:
            field = closed_fence(fence)
            if fence_kind(field) == "field":
                for size, row in itertools.product((1, 6, FAR), (-1, 0, 1)):
                    self.assertEqual(cut_counts(field, (0, 1, row), size)[0], below_count(field, size, row * size))


class TestComparing(unittest.TestCase):
    def test_pairs(self):
        source = random.Random(162)
        for _ in range(120):
            one, two = source.choice(NEAR + OUT), source.choice(NEAR + OUT)
            part, fewer = parting_size(one, two), first_fewer(one, two)
            self.assertIs(are_alike(one, two), part is None)
            self.assertIs(counting_rule(one) == counting_rule(two), part is None)
            if part is not None and part <= FAR:
                self.assertNotEqual(stake_count(one, part), stake_count(two, part))
                if part > 1:
                    self.assertEqual(stake_count(one, part - 1), stake_count(two, part - 1))
            if fewer is not None and fewer <= FAR:
                self.assertLess(stake_count(one, fewer), stake_count(two, fewer))
                self.assertEqual(fewer_sizes(one, two)[0][0], fewer)
            self.assertEqual([run[0] for run in alike_sizes(one, two)], [run[0] for run in alike_sizes(two, one)])

    def test_seen_fields(self):
        for bottom in (1, 2, 3, 12):
            for looks in ([], [(1, 3)], [(bottom, 3)], [(2, 6), (3, 10)]):
                many = fits_count(bottom, looks)
                fields = [nth_fit(bottom, looks, index) for index in range(many)]
                self.assertIs(clash_index(bottom, looks) is None, many > 0)
                for field in fields:
                    self.assertEqual([stake_count(field, size) for size, _ in looks], [count for _, count in looks])
                    self.assertEqual(parse_fence(format_fence(field)), field)
                if many:
                    sure = sure_counts(bottom, looks, 30)
                    totals = {total_count(field, 1, 30) for field in fields}
                    if None not in sure:
                        self.assertEqual(totals, {sum(sure)})
                    self.assertEqual(telling_sizes(bottom, looks) == [], all(are_alike(fields[0], field) for field in fields))


class TestFarmsAndConsoles(unittest.TestCase):
    def test_farms_and_consoles_agree(self):
        farm, console = LiveFarm(), Console()
        fences = (NEAR[::4] + OUT[::7])[:20]
        for number, fence in enumerate(fences):
            farm.put_fence("abcdefghijklmnopqrst"[number], fence)
        for size in SIZES:
            farm.set_size(size)
            self.assertEqual(console.execute(f"size {size}"), "ok")
            counts = []
            for name, fence in zip(farm.names, fences):
                console.execute("fence " + format_fence(farm.fence_named(name)))
                counts.append(int(console.execute("count")))
                self.assertEqual(counts[-1], farm.count_named(name))
                self.assertEqual(counts[-1], whole(rule_count(parse_rule(console.execute("rule")), size)))
                self.assertEqual(int(console.execute("inner")), stake_count(shut_fence(fence), size))
            self.assertEqual(farm.total, sum(counts))
        for name in farm.names:
            before = farm.fence_named(name)
            farm.move_fence(name, (-1, 0, 0, -1, 0, 0))
            console.execute("fence " + format_fence(before))
            console.execute("other " + format_fence(farm.fence_named(name)))
            self.assertEqual((console.execute("alike"), console.execute("parting"), console.execute("first")), ("yes", "none", "none"))
        total = farm.total
        for _ in farm.names:
            farm.undo()
        self.assertEqual((farm.total, [farm.fence_named(name) for name in farm.names]), (total, fences))

    def test_a_log_told_again(self):
        farm = LiveFarm()
        for name, fence in zip("abc", NEAR):
            farm.put_fence(name, fence)
        farm.set_size(FAR)
        farm.move_fence("b", SHEARS[1])
        farm.take_fence("a")
        again = LiveFarm()
        for call in farm.log:
            if call[0] == "put":
                again.put_fence(call[1], parse_fence(format_fence(call[2])))
            elif call[0] == "move":
                self.assertIs(is_move(call[2]), True)
                again.move_fence(call[1], parse_move(format_move(call[2])))
            elif call[0] == "size":
                again.set_size(call[1])
            else:
                again.take_fence(call[1])
        self.assertEqual((again, again.total, again.names), (farm, farm.total, farm.names))

    def test_ten_corners_everywhere(self):
        for bottom in (1, 30):
            fence = (bottom, TEN, [])
            console = Console()
            console.execute("fence " + format_fence(fence))
            console.execute("size 30")
            self.assertEqual(console.execute("hull"), " ".join(f"{x},{y}" for x, y in stake_hull(fence, 30)))
            self.assertEqual(console.execute("width").split(" ")[1:], [f"{a},{b}" for a, b in thin_directions(fence)[1]])
            self.assertEqual(stake_hull(fence, bottom), TEN)
            self.assertEqual(inner_fence(fence, bottom), (1, TEN, []))
            self.assertIs(are_same(moved_fence(fence, own_moves(fence)[0]), fence), True)


if __name__ == "__main__":
    unittest.main()
