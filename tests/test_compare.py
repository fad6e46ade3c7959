"""[8], [17] and [18]: two fences compared, against plain counts and at the edges the document names."""

import itertools
import math
import unittest

from far_fences import FAR, RING
from plain import all_sides, led
from plain_rules import SHORT, SMALL, STEEP, check_runs, lean_field, plain_counts, plain_lowest, plain_rule, plain_value, sizes_to

from growfences.compare import alike_sizes, are_alike, fewer_sizes, first_fewer, parting_size
from growfences.counts import stake_count
from growfences.rules import rule_period

LOW = (2, [(0, 0), (2, 0), (0, 1)], [])
LEAN = (2, lean_field(2), [])
WHOLE = (1, [(0, 0), (1, 0), (0, 1)], [])
SQUARE = [(0, 0), (1, 0), (1, 1), (0, 1)]
# Such a stretch and such a field have the bottoms 29 and 30, and each of them the same period.
LONG_29, WIDE_30 = (29, [(1, 0), (60, 1)], []), (30, [(1, 1), (3, 1), (1, 2)], [])


def values_to(fence, last):
    """The counts at the sizes from 1 to a last one, by the rule that plain counts give."""
    rule = plain_rule(fence)
    return [plain_value(rule, size) for size in range(1, last + 1)]


def some_pairs():
    """Pairs of fences of like and unlike kinds and bottoms, and each fence with itself."""
    few = SMALL[::7] + [fence for fence, _ in SHORT[:-1]]
    pairs = list(itertools.combinations(few, 2))[::2] + list(itertools.product(SMALL[::23], SMALL[::19]))
    return pairs + [(fence, fence) for fence in SMALL]


class TestAgainstPlainCounts(unittest.TestCase):
    def check_pair(self, fence, other, last):
        where, step = (fence, other), math.lcm(len(plain_rule(fence)), len(plain_rule(other)))
        leads = [one - two for one, two in zip(values_to(fence, last), values_to(other, last))]
        alike = [size for size, lead in enumerate(leads, 1) if lead == 0]
        fewer = [size for size, lead in enumerate(leads, 1) if lead < 0]
        unlike = [size for size, lead in enumerate(leads, 1) if lead != 0]
        self.assertIs(are_alike(fence, other), not unlike, where)
        self.assertEqual(parting_size(fence, other), unlike[0] if unlike else None, where)
        self.assertLessEqual(parting_size(fence, other) or 0, 3 * step, where)
        runs, under = alike_sizes(fence, other), fewer_sizes(fence, other)
        check_runs(self, runs, step, where)
        check_runs(self, under, step, where)
        self.assertEqual(sizes_to(runs, last), alike, where)
        self.assertEqual(sizes_to(under, last), fewer, where)
        self.assertEqual(first_fewer(fence, other), under[0][0] if under else None, where)
        if fewer:
            self.assertEqual(first_fewer(fence, other), fewer[0], where)

    def test_small_fences(self):
        for fence, other in some_pairs():
            last = max(30, 4 * math.lcm(plain_lowest(fence), plain_lowest(other)))
            self.check_pair(fence, other, last)
            self.check_pair(other, fence, last)

    def test_plain_counts_themselves(self):
        for fence, other in some_pairs()[::5]:
            last = 3 * max(plain_lowest(fence), plain_lowest(other))
            one, two = plain_counts(fence, last), plain_counts(other, last)
            sizes = range(1, last + 1)
            self.assertEqual(
                [size for size in sizes_to(alike_sizes(fence, other), last)],
                [size for size in sizes if one[size - 1] == two[size - 1]], (fence, other),
            )
            self.assertEqual(
                [size for size in sizes_to(fewer_sizes(fence, other), last)],
                [size for size in sizes if one[size - 1] < two[size - 1]], (fence, other),
            )

    def test_greatest_bottoms(self):
        for fence, other in itertools.product(STEEP[::3], STEEP[1::5]):
            self.check_pair(fence, other, 3 * math.lcm(plain_lowest(fence), plain_lowest(other)))

    def test_each_choice_of_open_sides(self):
        for one, two in itertools.product(all_sides(2, [(0, 0), (2, 0), (0, 1)]), all_sides(1, [(0, 0), (1, 0)])):
            self.check_pair(one, two, 60)
            self.check_pair(two, one, 60)

    def test_runs_hold_at_every_size(self):
        for fence, other in some_pairs()[::3]:
            one, two = plain_rule(fence), plain_rule(other)
            for runs, fits in ((alike_sizes(fence, other), (0,)), (fewer_sizes(fence, other), (-1,))):
                for first, step, many in runs:
                    times = 10 ** 40 if many is None else many - 1
                    ends = [first, first + step * times] + ([] if many is None else [first + step * many])
                    leads = [plain_value(one, size) - plain_value(two, size) for size in ends]
                    signs = [(lead > 0) - (lead < 0) for lead in leads]
                    self.assertTrue(signs[0] in fits and signs[1] in fits, (fence, other))
                    self.assertFalse(signs[2:] and signs[2] in fits, (fence, other))


class TestEdges(unittest.TestCase):
    def test_a_fence_with_itself(self):
        for fence in SMALL + STEEP + [(30, RING, [0, 5])]:
            self.assertIs(are_alike(fence, fence), True)
            self.assertIs(parting_size(fence, fence), None)
            self.assertIs(first_fewer(fence, fence), None)
            self.assertEqual(fewer_sizes(fence, fence), [])
            period = rule_period(fence)
            self.assertEqual(alike_sizes(fence, fence), [(size, period, None) for size in range(1, period + 1)])

    def test_alike_fences_over_unlike_bottoms(self):
        self.assertEqual((are_alike(LEAN, WHOLE), are_alike(WHOLE, LEAN)), (True, True))
        self.assertEqual((parting_size(LEAN, WHOLE), first_fewer(LEAN, WHOLE), first_fewer(WHOLE, LEAN)), (None, None, None))
        for bottom in (2, 3, 29, 30):
            lean = (bottom, lean_field(bottom), [])
            self.assertEqual(alike_sizes(lean, led(lean, (-1, 0, 0, 1, 5, 0))), [(1, 1, None)])
            self.assertEqual(parting_size(lean, (1, [(0, 0), (bottom, 0), (0, 1)], [])), 1)
        twice = (30, [(30 * x, 30 * y) for x, y in WHOLE[1]], [])
        self.assertEqual((are_alike(WHOLE, twice), alike_sizes(LEAN, twice)), (True, [(1, 1, None)]))

    def test_moved_fences_are_alike(self):
        for fence in SMALL[::9] + STEEP:
            other = led(fence, (2, 1, 1, 1, 3, -4))
            self.assertIs(are_alike(fence, other), True)
            self.assertIs(parting_size(other, fence), None)
            self.assertEqual(fewer_sizes(fence, other), [])

    def test_points_against_fields(self):
        point = (6, [(3, 2)], [])
        self.assertEqual(fewer_sizes(point, WHOLE), [(size, 6, None) for size in range(1, 7)])
        self.assertEqual((alike_sizes(point, WHOLE), parting_size(point, WHOLE)), ([], 1))
        shut = (1, WHOLE[1], [0, 1, 2])
        self.assertEqual(alike_sizes(point, shut), [(1, 6, 1), (2, 6, 1)])
        self.assertEqual(parting_size(point, shut), 3)
        self.assertEqual((first_fewer(point, shut), first_fewer(shut, point)), (3, None))
        self.assertEqual(fewer_sizes(point, shut), [(size, 6, None) for size in range(3, 9)])
        early = (1, [(0, 0)], [])
        self.assertEqual((fewer_sizes(early, shut), fewer_sizes(shut, early)), ([(4, 1, None)], [(1, 1, 2)]))
        self.assertEqual((alike_sizes(early, shut), first_fewer(shut, early)), ([(3, 1, 1)], 1))
        late = (30, [(7, 3)], [])
        self.assertEqual((parting_size(late, point), first_fewer(late, point), first_fewer(point, late)), (6, 6, None))
        self.assertEqual(fewer_sizes(late, point), [(size, 30, None) for size in (6, 12, 18, 24)])

    def test_two_runs_of_one_row(self):
        shut, line = (1, WHOLE[1], [0, 1, 2]), (1, [(0, 0), (1, 0)], [0, 1])
        self.assertEqual([stake_count(shut, size) for size in range(1, 6)], [0, 0, 1, 3, 6])
        self.assertEqual([stake_count(line, size) for size in range(1, 6)], [0, 1, 2, 3, 4])
        self.assertEqual(alike_sizes(shut, line), [(1, 1, 1), (4, 1, 1)])
        self.assertEqual((fewer_sizes(shut, line), fewer_sizes(line, shut)), ([(2, 1, 2)], [(5, 1, None)]))
        self.assertEqual((parting_size(shut, line), first_fewer(shut, line), first_fewer(line, shut)), (2, 2, 5))
        field, line = (3, [(0, 0), (1, 0), (0, 1)], []), (1, [(0, 0), (1, 0)], [0, 1])
        leads = [stake_count(field, size) - stake_count(line, size) for size in range(1, 15)]
        self.assertEqual(leads, [1, 0, 1, 0, -1, 1, 0, -1, 2, 1, 0, 4, 3, 2])
        self.assertEqual(fewer_sizes(line, field), [(1, 3, 1), (3, 3, None), (10, 3, None), (14, 3, None)])
        self.assertEqual(alike_sizes(line, field), [(2, 3, 1), (4, 3, 2), (11, 3, 1)])
        self.assertEqual((fewer_sizes(field, line), first_fewer(field, line)), ([(5, 3, 2)], 5))

    def test_bottoms_29_and_30(self):
        self.assertEqual((rule_period(LONG_29), rule_period(WIDE_30)), (29, 30))
        last = 3 * 870 + 5
        leads = [stake_count(WIDE_30, size) - stake_count(LONG_29, size) for size in range(1, last)]
        for runs, fits in (
            (alike_sizes(WIDE_30, LONG_29), lambda lead: lead == 0),
            (fewer_sizes(WIDE_30, LONG_29), lambda lead: lead < 0),
            (fewer_sizes(LONG_29, WIDE_30), lambda lead: lead > 0),
        ):
            check_runs(self, runs, 870, runs)
            self.assertEqual(sizes_to(runs, last - 1), [size for size, lead in enumerate(leads, 1) if fits(lead)])
        self.assertEqual(parting_size(WIDE_30, LONG_29), next(size for size, lead in enumerate(leads, 1) if lead != 0))
        one, two = (29, [(1, 0)], []), (30, [(1, 0)], [])
        self.assertEqual((parting_size(one, two), first_fewer(one, two), first_fewer(two, one)), (29, 30, 29))
        self.assertEqual(len(alike_sizes(one, two)), 870 - 30 - 29 + 2)
        self.assertEqual(fewer_sizes(one, two), [(size, 870, None) for size in range(30, 870, 30)])
        self.assertIn((870, 870, None), alike_sizes(one, two))

    def test_late_parting(self):
        for bottom in range(1, 16):
            one, two = [(times * bottom, [(0, 0), (1, 0), (0, 1)], [0, 1, 2]) for times in (1, 2)]
            self.assertEqual((parting_size(one, two), parting_size(two, one)), (2 * bottom + 1, 2 * bottom + 1))
            self.assertEqual((first_fewer(one, two), first_fewer(two, one)), (None, 2 * bottom + 1))
            self.assertIs(are_alike(one, two), False)
            self.assertEqual(alike_sizes(one, two), [(size, 2 * bottom, 1) for size in range(1, 2 * bottom + 1)])
        late = (29, [(0, 0), (1, 0), (0, 1)], [0, 1, 2]), (30, [(0, 0), (1, 0), (0, 1)], [0, 1, 2])
        self.assertEqual((parting_size(*late), first_fewer(*late), first_fewer(*late[::-1])), (59, None, 59))

    def test_far_runs(self):
        long = (1, [(0, 0), (FAR, 0)], [])
        field = (1, SQUARE, [])
        self.assertEqual(alike_sizes(field, long), [(FAR - 2, 1, 1)])
        self.assertEqual(fewer_sizes(field, long), [(1, 1, FAR - 3)])
        self.assertEqual(fewer_sizes(long, field), [(FAR - 1, 1, None)])
        self.assertEqual((first_fewer(long, field), parting_size(long, field)), (FAR - 1, 1))
        small = (30, [(0, 0), (1, 0), (0, 1)], [])
        late = first_fewer(long, small)
        self.assertGreater(late, 1799 * FAR)
        self.assertEqual(fewer_sizes(long, small)[0][0], late)
        self.assertEqual(len(fewer_sizes(long, small)), 30)
        self.assertEqual({many for _, _, many in fewer_sizes(long, small)}, {None})
        self.assertEqual([run[1] for run in fewer_sizes(small, long)], [30] * 30)
        self.assertEqual(sum(run[2] for run in fewer_sizes(small, long)) + len(alike_sizes(small, long)), late - 1)

    def test_kinds_of_answers(self):
        self.assertIs(are_alike(LOW, WHOLE).__class__, bool)
        self.assertIs(parting_size(LOW, WHOLE).__class__, int)
        self.assertEqual([run.__class__ for run in alike_sizes(LEAN, WHOLE)], [tuple])
        self.assertEqual([part.__class__ for part in fewer_sizes(LOW, WHOLE)[0]], [int, int, None.__class__])


if __name__ == "__main__":
    unittest.main()
