"""Parabolas over integers: values, sums and spans, against plain ones place by place."""

import itertools
import unittest

from growfences.parabolas import double_through, gaps_of, spans_at, spans_below, sum_of, value_of

LAST = 60


def plain_spans(fits, last):
    """The spans of the integers from 0 to a last one that fit, the last span without an end if it gets there."""
    spans = []
    for place in range(last + 1):
        if fits(place):
            if spans and spans[-1][1] == place - 1:
                spans[-1][1] = place
            else:
                spans.append([place, place])
    return [(first, None if end == last else end) for first, end in spans]


class TestParabolas(unittest.TestCase):
    def test_spans(self):
        for parabola in itertools.product(range(-3, 4), range(-13, 14), range(-14, 15)):
            below = plain_spans(lambda place: value_of(parabola, place) < 0, LAST)
            self.assertEqual(spans_below(parabola), below, parabola)
            there = plain_spans(lambda place: value_of(parabola, place) == 0, LAST)
            self.assertEqual(spans_at(parabola), there, parabola)

    def test_far_spans(self):
        far = 10 ** 200 + 7
        self.assertEqual(spans_at((1, -2 * far, far * far)), [(far, far)])
        self.assertEqual(spans_at((1, -2 * far - 1, far * (far + 1))), [(far, far + 1)])
        self.assertEqual(spans_at((-1, 2 * far + 2, -far * (far + 2))), [(far, far), (far + 2, far + 2)])
        self.assertEqual(spans_at((1, -2 * far, far * far - 1)), [(far - 1, far - 1), (far + 1, far + 1)])
        self.assertEqual(spans_at((1, -2 * far, far * far + 1)), [])
        self.assertEqual(spans_at((0, 3, -3 * far)), [(far, far)])
        self.assertEqual(spans_at((0, 3, -3 * far - 1)), [])
        self.assertEqual(spans_below((1, -2 * far, far * far)), [])
        self.assertEqual(spans_below((1, -2 * far, far * far - 2)), [(far - 1, far + 1)])
        self.assertEqual(spans_below((-1, 2 * far, -far * far)), [(0, far - 1), (far + 1, None)])
        self.assertEqual(spans_below((0, 3, -3 * far - 1)), [(0, far)])
        self.assertEqual(spans_below((0, -3, 3 * far + 1)), [(far + 1, None)])

    def test_values_and_sums(self):
        for values in itertools.product(range(-3, 4), repeat=3):
            parabola = double_through(*values)
            self.assertEqual([value_of(parabola, place) for place in range(3)], [2 * value for value in values])
            for many in range(8):
                self.assertEqual(sum_of(parabola, many), sum(value_of(parabola, place) for place in range(many)))

    def test_gaps(self):
        self.assertEqual(gaps_of([]), [(0, None)])
        self.assertEqual(gaps_of([(0, None)]), [])
        self.assertEqual(gaps_of([(0, 3)]), [(4, None)])
        self.assertEqual(gaps_of([(1, 1), (4, None)]), [(0, 0), (2, 3)])
        self.assertEqual(gaps_of([(2, 3), (5, 5)]), [(0, 1), (4, 4), (6, None)])


if __name__ == "__main__":
    unittest.main()
