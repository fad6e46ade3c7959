"""[23] and [24]: the fields that fit some counts, against all fields gone through and stakes counted place by place."""

import itertools
import random
import unittest

from plain import plain_stakes

from growfences.counts import stake_count
from growfences.errors import Impossible, InvalidLooks, InvalidNumber
from growfences.fences import is_fence
from growfences.rules import counting_rule
from growfences.seen import clash_index, fits_count, nth_fit, sure_counts, telling_sizes

GRID = [(x, y) for x in range(3) for y in range(3)]
HUGE = 10 ** 40 - 1


def turn(one, two, three):
    return (two[0] - one[0]) * (three[1] - one[1]) - (two[1] - one[1]) * (three[0] - one[0])


def plain_fields():
    """All three corners of the grid that are no line, counterclockwise and the least one first, ascending."""
    fields = []
    for corners in itertools.combinations(GRID, 3):
        if turn(*corners) != 0:
            fields.append(list(corners) if turn(*corners) > 0 else [corners[0], corners[2], corners[1]])
    return sorted(fields)


FIELDS = plain_fields()
KNOWN = {}


def plain_count(bottom, corners, size):
    """The stakes of a closed field with three corners, place by place."""
    key = (bottom, tuple(corners), size)
    if key not in KNOWN:
        one, two, three = [(size * x, size * y) for x, y in corners]
        KNOWN[key] = sum(
            turn(one, two, place) >= 0 and turn(two, three, place) >= 0 and turn(three, one, place) >= 0
            for x in range(2 * size // bottom + 1) for y in range(2 * size // bottom + 1)
            for place in [(bottom * x, bottom * y)]
        )
    return KNOWN[key]


def plain_fits(bottom, looks):
    return [corners for corners in FIELDS if all(plain_count(bottom, corners, size) == count for size, count in looks)]


def plain_clash(bottom, looks):
    for index in range(len(looks)):
        if not plain_fits(bottom, looks[:index + 1]):
            return index
    return None


def plain_telling(bottom, looks):
    """The telling sizes by going through all lists of sizes; rules are alike if counts are at sizes to 3 * bottom."""
    last = max(12, 3 * bottom)
    rows = {tuple(plain_count(bottom, corners, size) for size in range(1, last + 1)) for corners in plain_fits(bottom, looks)}
    for many in range(13):
        for sizes in itertools.combinations(range(1, 13), many):
            if len({tuple(row[size - 1] for size in sizes) for row in rows}) == len(rows):
                return list(sizes)
    return None


def true_looks(source, bottom, corners, many, last):
    """Looks at a hidden field."""
    sizes = [source.randint(1, last) for _ in range(many)]
    return [(size, plain_count(bottom, corners, size)) for size in sizes]


def some_looks(seed, many):
    """Bottoms with looks: at a hidden field, and with a count that is off by some at times."""
    source = random.Random(seed)
    found = []
    for _ in range(many):
        bottom = source.choice((1, 2, 3, 4, 5, 7, 9, 12))
        looks = true_looks(source, bottom, source.choice(FIELDS), source.randint(0, 5), 4 * bottom)
        if looks and source.random() < 0.4:
            spot = source.randrange(len(looks))
            looks[spot] = (looks[spot][0], max(0, looks[spot][1] + source.choice((-2, -1, 1, 2))))
        found.append((bottom, looks))
    return found


class TestFits(unittest.TestCase):
    def test_all_fields(self):
        self.assertEqual(len(FIELDS), 76)
        for bottom in range(1, 13):
            self.assertEqual(fits_count(bottom, []), 76)
            fits = [nth_fit(bottom, [], index) for index in range(76)]
            self.assertEqual(fits, [(bottom, corners, []) for corners in FIELDS])
            self.assertEqual(fits, sorted(fits))
            self.assertTrue(all(is_fence(fit) for fit in fits))
            self.assertIs(clash_index(bottom, []), None)

    def test_plain_counts_are_counts(self):
        for bottom, size in ((1, 1), (2, 3), (3, 7), (12, 12), (12, 31)):
            for corners in FIELDS[::5]:
                count = plain_count(bottom, corners, size)
                self.assertEqual(count, stake_count((bottom, corners, []), size))
                self.assertEqual(count, len(plain_stakes((bottom, corners, []), size)))

    def test_against_a_plain_way(self):
        alone = none = 0
        for bottom, looks in some_looks(121, 250):
            fits = plain_fits(bottom, looks)
            alone, none = alone + (len(fits) == 1), none + (not fits)
            self.assertEqual(fits_count(bottom, looks), len(fits), (bottom, looks))
            self.assertEqual([nth_fit(bottom, looks, index) for index in range(len(fits))], [(bottom, fit, []) for fit in fits])
            self.assertEqual(clash_index(bottom, looks), plain_clash(bottom, looks), (bottom, looks))
            for index in (-1, len(fits), len(fits) + 1, HUGE, 10 ** 199):
                with self.assertRaises(InvalidNumber):
                    nth_fit(bottom, looks, index)
        self.assertGreater(none, 20)
        self.assertGreater(len(some_looks(121, 250)) - alone - none, 50)

    def test_single_looks(self):
        for bottom, size in ((1, 1), (1, 2), (2, 1), (3, 4), (12, 12), (12, 20)):
            total = 0
            for count in range(0, 40):
                fits = plain_fits(bottom, [(size, count)])
                total += len(fits)
                self.assertEqual(fits_count(bottom, [(size, count)]), len(fits))
                self.assertEqual(clash_index(bottom, [(size, count)]), None if fits else 0)
            self.assertEqual(total, 76)

    def test_a_field_that_fits_alone(self):
        alone = []
        for bottom in (4, 5, 7, 12):
            counts = [tuple(stake_count((bottom, corners, []), size) for size in range(1, 37)) for corners in FIELDS]
            for corners, row in zip(FIELDS, counts):
                if counts.count(row) == 1:
                    alone.append((bottom, corners))
                    looks = [(size, row[size - 1]) for size in range(25, 37)]
                    if fits_count(bottom, looks) == 1:
                        self.assertEqual(nth_fit(bottom, looks, 0), (bottom, corners, []))
                        with self.assertRaises(InvalidNumber):
                            nth_fit(bottom, looks, 1)
                        self.assertEqual(sure_counts(bottom, looks, 36), list(row))
                        self.assertEqual(telling_sizes(bottom, looks), [])
        self.assertGreater(len(alone), 3)

    def test_the_greatest_size_and_counts(self):
        for bottom in (5, 12):
            for corners in FIELDS[::9]:
                count = stake_count((bottom, corners, []), 60)
                if bottom == 12:
                    self.assertEqual(count, plain_count(bottom, corners, 60))
                here = [fit for fit in FIELDS if stake_count((bottom, fit, []), 60) == count]
                self.assertEqual(fits_count(bottom, [(60, count)]), len(here))
                self.assertIn((bottom, corners, []), [nth_fit(bottom, [(60, count)], index) for index in range(len(here))])
        for bottom in (1, 12):
            self.assertEqual(fits_count(bottom, [(60, HUGE)]), 0)
            self.assertEqual(clash_index(bottom, [(60, HUGE)]), 0)
            self.assertEqual(fits_count(bottom, [(1, HUGE), (60, 0)]), 0)
            with self.assertRaises(InvalidNumber):
                nth_fit(bottom, [(60, HUGE)], 0)
            for function in (lambda: sure_counts(bottom, [(60, HUGE)], 1), lambda: telling_sizes(bottom, [(60, HUGE)])):
                with self.assertRaises(Impossible):
                    function()

    def test_twelve_looks(self):
        field = (3, FIELDS[30], [])
        looks = [(size, stake_count(field, size)) for size in range(49, 61)]
        self.assertIn(field, [nth_fit(3, looks, index) for index in range(fits_count(3, looks))])
        self.assertIs(clash_index(3, looks), None)
        for spot in range(12):
            wrong = looks[:spot] + [(looks[spot][0], looks[spot][1] + 5000)] + looks[spot + 1:]
            self.assertEqual((fits_count(3, wrong), clash_index(3, wrong)), (0, spot))
        self.assertEqual(fits_count(3, looks[:1] * 12), fits_count(3, looks[:1]))
        with self.assertRaises(InvalidLooks) as caught:
            fits_count(3, looks + looks[:1])
        self.assertIs(caught.exception.index, None)

    def test_the_first_clash_counts(self):
        self.assertEqual([clash_index(1, looks) for looks in ([(1, 6), (2, 15)], [(1, 6), (2, 15), (1, 6), (1, 5), (2, 0)])], [None, 3])
        self.assertEqual(clash_index(1, [(1, 6), (1, 5)]), 1)
        self.assertEqual(clash_index(1, [(1, 5), (1, 6)]), 1)
        self.assertEqual(clash_index(1, [(1, 7), (1, 6)]), 0)
        self.assertIs(clash_index(1, [(1, 6), (2, 15)]), None)


class TestSureCounts(unittest.TestCase):
    def test_against_a_plain_way(self):
        for bottom, looks in some_looks(122, 60):
            fits, last = plain_fits(bottom, looks), 4 * bottom
            if not fits:
                with self.assertRaises(Impossible):
                    sure_counts(bottom, looks, last)
                continue
            rows = [{plain_count(bottom, corners, size) for corners in fits} for size in range(1, last + 1)]
            expected = [min(row) if len(row) == 1 else None for row in rows]
            self.assertEqual(sure_counts(bottom, looks, last), expected, (bottom, looks))
            for less in (1, 2, last // 2 + 1):
                self.assertEqual(sure_counts(bottom, looks, less), expected[:less])

    def test_last_1_and_60(self):
        for bottom in (1, 2, 12):
            field = (bottom, FIELDS[3], [])
            looks = [(size, stake_count(field, size)) for size in (5, 12, 24, 36)]
            sure = sure_counts(bottom, looks, 60)
            self.assertEqual(len(sure), 60)
            self.assertEqual([sure[size - 1] for size, _ in looks], [count for _, count in looks])
            self.assertEqual(sure_counts(bottom, looks, 1), sure[:1])
            for size, count in enumerate(sure, 1):
                self.assertIn(count, (None, stake_count(field, size)))
        self.assertEqual(sure_counts(12, [], 60), [
            min(row) if len(set(row)) == 1 else None for row in (
                [stake_count((12, corners, []), size) for corners in FIELDS] for size in range(1, 61))
        ])


class TestTellingSizes(unittest.TestCase):
    def test_against_all_lists_of_sizes(self):
        for bottom in range(1, 13):
            self.assertEqual(telling_sizes(bottom, []), plain_telling(bottom, []), bottom)
        self.assertEqual(telling_sizes(8, []), [1, 5, 6, 7, 12])
        answers = []
        for bottom, looks in some_looks(123, 120):
            if not plain_fits(bottom, looks):
                with self.assertRaises(Impossible):
                    telling_sizes(bottom, looks)
                continue
            answer = telling_sizes(bottom, looks)
            self.assertEqual(answer, plain_telling(bottom, looks), (bottom, looks))
            answers.append(answer)
        self.assertIn([], answers)
        self.assertIn(None, answers + [telling_sizes(9, [])])
        self.assertTrue(any(answer and len(answer) == 1 for answer in answers))
        self.assertTrue(any(answer and len(answer) > 1 for answer in answers))

    def test_what_they_tell(self):
        for bottom in range(1, 13):
            for looks in ([], [(bottom, 3)], [(bottom, 4)]):
                fields = [nth_fit(bottom, looks, index) for index in range(fits_count(bottom, looks))]
                sizes = telling_sizes(bottom, looks)
                rules = [repr(counting_rule(field)) for field in fields]
                self.assertEqual(sizes == [], len(set(rules)) == 1)
                rows = [tuple(stake_count(field, size) for size in sizes or range(1, 13)) for field in fields]
                if sizes is None:
                    self.assertLess(len(set(rows)), len(set(rules)))
                else:
                    for one, two in itertools.combinations(zip(rules, rows), 2):
                        self.assertTrue(one[0] == two[0] or one[1] != two[1] or sizes == [])
        self.assertEqual([telling_sizes(bottom, []) is None for bottom in range(1, 13)], [False] * 8 + [True, False, True, True])

    def test_kinds_of_answers(self):
        self.assertIs(telling_sizes(1, []).__class__, list)
        self.assertIs(sure_counts(1, [], 2).__class__, list)
        self.assertEqual([part.__class__ for part in nth_fit(1, [], 0)], [int, list, list])
        self.assertEqual([clash_index(1, looks).__class__ for looks in ([(1, 7)], [])], [int, None.__class__])


if __name__ == "__main__":
    unittest.main()
