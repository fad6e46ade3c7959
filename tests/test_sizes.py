"""[8] and [15]: the sizes with a count and totals, against plain counts and at the edges the document names."""

import random
import unittest

from plain import value_through
from plain_rules import SHORT, SMALL, STEEP, check_runs, lean_field, plain_lowest, plain_rule, plain_value, plain_values, sizes_to

from growfences.counts import stake_count
from growfences.fences import fence_kind, shut_fence
from growfences.rules import rule_period
from growfences.sizes import first_size, sizes_with, total_count

FAR = 10 ** 30
LOW = (2, [(0, 0), (2, 0), (0, 1)], [])
SQUARE = [(0, 0), (1, 0), (1, 1), (0, 1)]


def some_numbers(values):
    """Numbers that are counts, and some that are not."""
    few = sorted(set(values))
    return sorted({0, 1, 2, 3, *few[:6], *few[-3:], few[-1] + 1, few[-1] * few[-1] + 5})


class TestSizesWith(unittest.TestCase):
    def test_small_fences(self):
        for fence in SMALL + STEEP:
            last = max(40, 5 * plain_lowest(fence))
            values, period = plain_values(fence, last), len(plain_rule(fence))
            for number in some_numbers(values):
                runs = sizes_with(fence, number)
                check_runs(self, runs, period, (fence, number))
                sizes = [size for size, value in enumerate(values, 1) if value == number]
                self.assertEqual(sizes_to(runs, last), sizes, (fence, number))

    def test_runs_hold_at_every_size(self):
        for fence in SMALL + STEEP:
            rule, period = plain_rule(fence), rule_period(fence)
            for number in (0, 1, 2, 17, 10 ** 9):
                for first, step, many in sizes_with(fence, number):
                    times = 10 ** 40 if many is None else many - 1
                    for size in (first, first + step, first + step * (times // 2), first + step * times):
                        if size <= first + step * times:
                            self.assertEqual(plain_value(rule, size), number, (fence, number, size))
                    self.assertEqual(step, period)

    def test_runs_without_an_end(self):
        self.assertEqual(sizes_with((1, [(0, 0)], []), 1), [(1, 1, None)])
        self.assertEqual(sizes_with((1, [(0, 0)], []), 0), [])
        self.assertEqual(sizes_with((30, [(1, 0)], []), 1), [(30, 30, None)])
        self.assertEqual(sizes_with((30, [(1, 0)], []), 0), [(size, 30, None) for size in range(1, 30)])
        self.assertEqual(sizes_with((30, [(15, 1), (45, 1)], [0]), 0), [(size, 30, None) for size in range(1, 30)])
        self.assertEqual(sizes_with((30, [(15, 1), (45, 1)], [0]), 30), [(30, 30, 1)])
        # In a run without an end and in one with an end: the ends are open, and at the size 2 there is nothing between.
        self.assertEqual(sizes_with((2, [(0, 1), (2, 1)], [0, 1]), 0), [(1, 2, None)])
        self.assertEqual(sizes_with((2, [(0, 1), (1, 1)], [0, 1]), 0), [(1, 2, None), (2, 2, 1)])

    def test_runs_of_two_sizes_and_of_one(self):
        shut = shut_fence(LOW)
        self.assertEqual(sizes_with(shut, 0), [(1, 2, 2), (2, 2, 1)])
        self.assertEqual(sizes_with(shut, 1), [(4, 2, 1)])
        self.assertEqual(sizes_with((1, [(0, 0), (1, 0), (0, 1)], [0, 1, 2]), 0), [(1, 1, 2)])
        self.assertEqual(sizes_with((2, lean_field(2), []), 10), [(3, 1, 1)])

    def test_long_numbers(self):
        for size in (1, 2, 10 ** 9, FAR, FAR - 1):
            for fence in (LOW, shut_fence(LOW), (30, [(1, 2), (3, 1), (7, 9)], [1]), (1, [(0, 0), (FAR, 1)], []), (1, SQUARE, [2])):
                runs = sizes_with(fence, stake_count(fence, size))
                self.assertIn(size, [first + step * times for first, step, many in runs for times in range(many)])
        long = 10 ** 100 - 1
        self.assertEqual(sizes_with((1, SQUARE, []), long * long), [(long - 1, 1, 1)])
        self.assertEqual(sizes_with((1, SQUARE, [0, 1, 2, 3]), long * long), [(long + 1, 1, 1)])
        self.assertEqual(sizes_with((1, SQUARE, [0]), long * (long + 1)), [(long, 1, 1)])
        self.assertEqual(sizes_with((1, SQUARE, []), long * long + 1), [])
        self.assertEqual(sizes_with((3, [(0, 0), (1, 0)], []), long), [(3 * long - 3 + rest, 3, 1) for rest in range(3)])
        self.assertEqual(sizes_with((1, [(0, 0), (1, 0)], []), 10 ** 200 - 1), [(10 ** 200 - 2, 1, 1)])


class TestFirstSize(unittest.TestCase):
    def test_small_fences(self):
        for fence in SMALL + STEEP:
            last = max(40, 5 * plain_lowest(fence))
            values = plain_values(fence, last)
            for number in some_numbers(values[:-1]):
                sizes = [size for size, value in enumerate(values, 1) if value >= number]
                if sizes:
                    self.assertEqual(first_size(fence, number), sizes[0], (fence, number))
                elif fence_kind(fence) == "point":
                    self.assertIs(first_size(fence, number), None, (fence, number))
                else:
                    self.assertGreater(first_size(fence, number), last, (fence, number))

    def test_far_sizes(self):
        for fence in SMALL + STEEP:
            rule, bottom = plain_rule(fence), plain_lowest(fence)
            for number in (10 ** 12 + 39, 10 ** 60, 10 ** 199):
                size = first_size(fence, number)
                if fence_kind(fence) == "point":
                    self.assertIs(size, None)
                else:
                    # Each row rises there, so a look at one size of each row is enough.
                    self.assertGreaterEqual(plain_value(rule, size), number)
                    self.assertGreater(size, 10 ** 3)
                    for before in range(size - bottom, size):
                        self.assertLess(plain_value(rule, before), number, (fence, number))

    def test_edges(self):
        self.assertEqual([first_size(LOW, number) for number in range(8)], [1, 1, 1, 2, 2, 3, 3, 4])
        self.assertEqual([first_size((30, [(1, 1)], []), number) for number in (0, 1, 2, 10 ** 199)], [1, 30, None, None])
        self.assertEqual([first_size((1, [(1, 1)], []), number) for number in (0, 1, 2)], [1, 1, None])
        self.assertEqual(first_size((30, [(1, 1), (2, 1)], []), 1), 30)
        self.assertEqual([first_size((1, [(0, 0), (1, 0)], [0, 1]), number) for number in (0, 1, 2)], [1, 2, 3])
        self.assertEqual(first_size((1, [(0, 0), (1, 0)], [0]), 10 ** 200 - 1), 10 ** 200 - 1)
        self.assertEqual(first_size((1, [(-FAR, -FAR), (FAR, FAR)], []), 2 * FAR + 2), 2)

    def test_counts_that_fall(self):
        thin = (4, [(0, 2), (20, 2), (20, 3), (0, 3)], [])
        self.assertEqual([stake_count(thin, size) for size in range(1, 7)], [0, 11, 16, 42, 26, 62])
        self.assertEqual([first_size(thin, number) for number in (1, 11, 12, 17, 42, 43)], [2, 2, 3, 4, 4, 6])
        level = (2, [(0, 1), (2, 1)], [])
        self.assertEqual([first_size(level, number) for number in (0, 1, 3, 4, 5)], [1, 2, 2, 4, 4])


class TestTotalCount(unittest.TestCase):
    def test_small_fences(self):
        source = random.Random(81)
        for fence in SMALL + STEEP:
            last = max(30, 4 * plain_lowest(fence))
            values = plain_values(fence, last)
            pairs = [(1, size) for size in range(1, last + 1)]
            pairs += [(source.randint(1, last), source.randint(1, last)) for _ in range(12)]
            for first, end in pairs:
                self.assertEqual(total_count(fence, first, end), sum(values[first - 1:end]), (fence, first, end))

    def test_last_below_first(self):
        for fence in (LOW, (30, [(1, 1)], []), (1, [(0, 0), (1, 1)], [0])):
            for first, last in ((2, 1), (31, 30), (FAR, 1), (FAR, FAR - 1), (61, 2)):
                self.assertEqual(total_count(fence, first, last), 0)

    def test_far_sizes(self):
        for fence in SMALL + STEEP:
            rule, bottom = plain_rule(fence), plain_lowest(fence)
            self.assertEqual(total_count(fence, FAR, FAR), stake_count(fence, FAR))
            few = sum(plain_value(rule, size) for size in range(FAR - 5, FAR + 1))
            self.assertEqual(total_count(fence, FAR - 5, FAR), few)
            # The totals at every so many sizes lie on a curve of the third degree.
            places = [(bottom * times, sum(plain_values(fence, bottom * times))) for times in range(1, 5)]
            last = FAR - FAR % bottom
            self.assertEqual(total_count(fence, 1, last), value_through(places, last), fence)
            self.assertEqual(total_count(fence, 3, last) + sum(plain_values(fence, 2)), value_through(places, last))

    def test_known_totals(self):
        self.assertEqual(total_count((1, [(0, 0)], []), 1, FAR), FAR)
        self.assertEqual(total_count((30, [(1, 0)], []), 1, FAR), FAR // 30)
        self.assertEqual(total_count((30, [(1, 0)], []), FAR - 9, FAR), 0)
        self.assertEqual(total_count((1, [(0, 0), (1, 0)], [0]), 1, FAR), FAR * (FAR + 1) // 2)
        self.assertEqual(total_count((1, SQUARE, [0, 3]), 1, FAR), FAR * (FAR + 1) * (2 * FAR + 1) // 6)
        self.assertEqual(total_count(SHORT[0][0], 1, 1), stake_count(SHORT[0][0], 1))
        self.assertEqual(total_count(LOW, 1, 1), 2)
        self.assertEqual(total_count(LOW, FAR, FAR), 10 ** 60 // 4 + FAR + 1)


if __name__ == "__main__":
    unittest.main()
