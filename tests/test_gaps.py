"""[7] and [16]: sizes with a stake, against plain counts and at the edges the document names."""

import math
import unittest

from plain import all_sides
from plain_rules import SMALL, STEEP, lean_field, plain_counts, plain_lowest, plain_values

from growfences.counts import stake_count
from growfences.fences import fence_kind, shut_fence
from growfences.gaps import empty_sizes, has_stakes, last_empty, size_step, stake_sizes

FAR = 10 ** 30
LOW = (2, [(0, 0), (2, 0), (0, 1)], [])
SHORT_STRETCH = (15, [(5, 0), (6, 0)], [])


def plain_sums(sizes, last):
    """All sums of some of the sizes, equal ones or not, up to a last one."""
    sums = {0}
    for total in range(1, last + 1):
        if any(total - size in sums for size in sizes):
            sums.add(total)
    return sorted(sums - {0})


class TestAgainstPlainCounts(unittest.TestCase):
    def filled_sizes(self, fence, last):
        return [size for size, count in enumerate(plain_values(fence, last), 1) if count > 0]

    def test_steps(self):
        for fence in SMALL + STEEP:
            filled = self.filled_sizes(fence, 8 * plain_lowest(fence))
            self.assertEqual(size_step(fence), math.gcd(*filled), fence)

    def test_sizes_that_are_no_sums(self):
        for fence in SMALL + STEEP:
            last = 8 * plain_lowest(fence)
            filled = self.filled_sizes(fence, last)
            known = set(filled)
            single = [size for size in filled if not any(size - part in known for part in filled)]
            self.assertEqual(stake_sizes(fence), single, fence)
            self.assertEqual(plain_sums(stake_sizes(fence), last), filled, fence)

    def test_empty_sizes(self):
        for fence in SMALL + STEEP:
            last = 8 * plain_lowest(fence)
            filled = set(self.filled_sizes(fence, last))
            step = math.gcd(*filled)
            empty = [size for size in range(step, last + 1, step) if size not in filled]
            self.assertEqual(empty_sizes(fence), empty, fence)
            self.assertEqual(last_empty(fence), max([0, *empty]), fence)

    def test_has_stakes(self):
        for fence in SMALL + STEEP:
            for size, count in enumerate(plain_counts(fence, 3 * plain_lowest(fence)), 1):
                self.assertIs(has_stakes(fence, size), count > 0, (fence, size))
            for size in (FAR, FAR - 1, FAR - 10, 10 ** 9 + 7):
                self.assertIs(has_stakes(fence, size), size % size_step(fence) == 0, (fence, size))

    def test_all_stretches_with_small_ends(self):
        for bottom in (1, 2, 3, 4, 6):
            for x in range(5):
                for y in range(-3, 4):
                    for fence in all_sides(bottom, sorted([(1, 1), (1 + x, 1 + y)])) if (x, y) > (0, 0) else []:
                        last = 4 * bottom
                        filled = [size for size, count in enumerate(plain_counts(fence, last), 1) if count > 0]
                        step = math.gcd(*filled)
                        self.assertEqual(size_step(fence), step, fence)
                        empty = [size for size in range(step, last, step) if size not in filled]
                        self.assertEqual(empty_sizes(fence), empty, fence)


class TestEdges(unittest.TestCase):
    def test_points(self):
        for bottom in (1, 2, 29, 30):
            for corner in ((1, 0), (1, -7)):
                fence = (bottom, [corner], [])
                answers = (size_step(fence), stake_sizes(fence), empty_sizes(fence), last_empty(fence))
                self.assertEqual(answers, (bottom, [bottom], [], 0))
                self.assertIs(has_stakes(fence, bottom), True)
                self.assertIs(has_stakes(fence, FAR), FAR % bottom == 0)
        self.assertEqual((size_step((30, [(15, 60)], [])), stake_sizes((30, [(15, 60)], []))), (2, [2]))

    def test_stretches(self):
        self.assertEqual((size_step(SHORT_STRETCH), stake_sizes(SHORT_STRETCH)), (1, [3, 5]))
        shut = shut_fence(SHORT_STRETCH)
        self.assertEqual(stake_sizes(shut), [8, 11, 13, 14, 17, 18, 20, 23])
        self.assertEqual(empty_sizes(shut), [1, 2, 3, 4, 5, 6, 7, 9, 10, 12, 15])
        self.assertEqual(last_empty(shut), 15)
        # The line has a stake at each second size alone.
        level = (30, [(0, 15), (1, 15)], [0, 1])
        self.assertEqual((size_step(level), last_empty(level)), (2, 30))
        self.assertEqual(empty_sizes(level), list(range(2, 31, 2)))
        self.assertEqual(stake_sizes(level), list(range(32, 63, 2)))
        # No stake is between both ends at the lowest bottom itself.
        unit = (1, [(0, 0), (1, 0)], [0, 1])
        self.assertEqual((stake_sizes(unit), empty_sizes(unit), last_empty(unit)), ([2, 3], [1], 1))
        steep = (30, [(1, 0), (2, 1)], [])
        self.assertEqual((size_step(steep), stake_sizes(steep), last_empty(steep)), (30, [30], 0))

    def test_fields(self):
        self.assertEqual((stake_sizes(LOW), empty_sizes(LOW), last_empty(LOW)), ([1], [], 0))
        shut = shut_fence(LOW)
        self.assertEqual((stake_sizes(shut), empty_sizes(shut), last_empty(shut)), ([4, 5, 6, 7], [1, 2, 3], 3))
        # The smallest field with all sides open has its first stake just ahead of three times its lowest bottom.
        for bottom in (1, 2, 29, 30):
            small = (bottom, [(0, 0), (1, 0), (0, 1)], [0, 1, 2])
            self.assertEqual(size_step(small), 1)
            self.assertEqual(last_empty(small), 2 * bottom)
            self.assertEqual(empty_sizes(small), list(range(1, 2 * bottom + 1)))
            self.assertEqual(stake_sizes(small), list(range(2 * bottom + 1, 4 * bottom + 2)))
            self.assertIs(has_stakes(small, 3 * bottom), True)

    def test_fields_aside(self):
        for bottom in (2, 3, 5, 29, 30):
            aside = (bottom, [(1, 1), (2, 1), (1, 2)], [0, 1, 2])
            counts = [stake_count(aside, size) for size in range(1, 6 * bottom + 1)]
            filled = [size for size, count in enumerate(counts, 1) if count > 0]
            self.assertLess(max(empty_sizes(aside)), 3 * bottom)
            self.assertEqual(empty_sizes(aside), sorted(set(range(1, 6 * bottom + 1)) - set(filled)))
            self.assertEqual(plain_sums(stake_sizes(aside), 6 * bottom), filled)
            for size in stake_sizes(aside):
                fewer = [other for other in stake_sizes(aside) if other != size]
                self.assertNotIn(size, plain_sums(fewer, size))

    def test_far_corners(self):
        whole = (1, [(-FAR, -FAR), (FAR, -FAR), (FAR, FAR)], [0, 1, 2])
        self.assertEqual((size_step(whole), stake_sizes(whole), last_empty(whole)), (1, [1], 0))
        thin = (1, [(-FAR, FAR - 1), (-FAR + 1, FAR - 1), (-FAR, FAR)], [0, 1, 2])
        self.assertEqual((stake_sizes(thin), empty_sizes(thin), last_empty(thin)), ([3, 4, 5], [1, 2], 2))
        line = (30, [(-FAR, FAR), (FAR, FAR)], [])
        self.assertEqual((size_step(line), stake_sizes(line), last_empty(line)), (3, [3], 0))
        apart = (30, [(-FAR, 1 - FAR), (1 - FAR, 2 - FAR)], [0, 1])
        self.assertEqual((size_step(apart), empty_sizes(apart), stake_sizes(apart)), (30, [30], [60, 90]))
        self.assertEqual((size_step((30, [(FAR, -FAR)], [])), stake_sizes((29, [(FAR, 1)], []))), (3, [29]))
        self.assertEqual(stake_sizes((30, [(0, 0), (FAR, 1), (FAR, 2)], [])), [1])

    def test_lean_fields(self):
        for bottom in (2, 3, 29, 30):
            lean = (bottom, lean_field(bottom), [0, 1, 2])
            counts = [stake_count(lean, size) for size in range(1, 6)]
            self.assertEqual(empty_sizes(lean), [size for size, count in enumerate(counts, 1) if count == 0])
            self.assertEqual(size_step(lean), 1)

    def test_kinds_of_answers(self):
        for fence in (LOW, SHORT_STRETCH, (6, [(3, 2)], [])):
            self.assertIs(size_step(fence).__class__, int)
            self.assertIs(last_empty(fence).__class__, int)
            self.assertIs(has_stakes(fence, 1).__class__, bool)
            self.assertIs(stake_sizes(fence).__class__, list)
            self.assertIs(empty_sizes(fence).__class__, list)

    def test_a_field_has_the_step_1(self):
        for fence in SMALL + STEEP:
            if fence_kind(fence) == "field":
                self.assertEqual(size_step(fence), 1, fence)


if __name__ == "__main__":
    unittest.main()
