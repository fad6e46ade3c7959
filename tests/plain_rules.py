"""Rules, runs and sums for small fences, from counts that are taken place by place."""

import itertools
from fractions import Fraction

from plain import all_sides, plain_stakes, some_fences

# Plain counts and rules that were taken already, by the fence as a text.
KNOWN = {}
RULES = {}


def plain_counts(fence, last):
    """The counts at the sizes from 1 to a last one, each taken place by place."""
    counts = KNOWN.setdefault(repr(fence), [])
    for size in range(len(counts) + 1, last + 1):
        counts.append(len(plain_stakes(fence, size)))
    return counts[:last]


def plain_lowest(fence):
    """The least bottom with which the corners of a fence can be told."""
    return next(
        bottom for bottom in range(1, 31)
        if all(number * bottom % fence[0] == 0 for corner in fence[1] for number in corner)
    )


def plain_row(values, first, rows):
    """The square, the linear part and the constant through the values at a size, and one and two periods behind."""
    one, two, three = [values[first - 1 + times * rows] for times in range(3)]
    square = Fraction(three - 2 * two + one, 2 * rows * rows)
    linear = Fraction(two - one, rows) - square * (2 * first + rows)
    return (square, linear, one - square * first * first - linear * first)


def plain_value(rule, size):
    """The value of a rule of plain numbers at any integer."""
    square, linear, constant = rule[size % len(rule)]
    return square * size * size + linear * size + constant


def least_rule(values, numbers):
    """The rule with the least of some numbers of rows that has all values at the sizes from 1 on."""
    for rows in numbers:
        rule = [plain_row(values, remainder or rows, rows) for remainder in range(rows)]
        if all(plain_value(rule, size) == value for size, value in enumerate(values, 1)):
            return rule
    raise AssertionError("no rule has these values")


def plain_rule(fence):
    """The rule of a fence, from plain counts at sizes to four times its lowest bottom."""
    key = repr(fence)
    if key not in RULES:
        bottom = plain_lowest(fence)
        RULES[key] = least_rule(plain_counts(fence, 4 * bottom), range(1, bottom + 1))
    return RULES[key]


def plain_values(fence, last):
    """The counts at the sizes from 1 to a last one, by the plain rule where there are many."""
    counts = plain_counts(fence, min(last, 3 * plain_lowest(fence)))
    rule = plain_rule(fence)
    return counts + [int(plain_value(rule, size)) for size in range(len(counts) + 1, last + 1)]


def told(rule):
    """A rule of plain numbers as the document tells it."""
    return [tuple((part.numerator, part.denominator) for part in map(Fraction, row)) for row in rule]


def sizes_to(runs, last):
    """The sizes in runs up to a last one, ascending."""
    sizes = []
    for first, step, many in runs:
        run = range(first, last + 1, step)
        sizes.extend(run if many is None else run[:many])
    return sorted(sizes)


def check_runs(case, runs, step, where):
    """Runs ascend, have one step, and no run could be told longer or as a part of another one."""
    case.assertIs(runs.__class__, list, where)
    case.assertEqual([run[0] for run in runs], sorted({run[0] for run in runs}), where)
    for first, by, many in runs:
        case.assertEqual(by, step, where)
        case.assertGreaterEqual(first, 1, where)
        case.assertTrue(many is None or many >= 1, where)
    ends = {first + step * (many - 1) for first, _, many in runs if many is not None}
    case.assertFalse(ends & {first - step for first, _, _ in runs}, where)
    for one, two in itertools.combinations(runs, 2):
        if (two[0] - one[0]) % step == 0:
            case.assertIsNot(one[2], None, where)
            case.assertLess(one[0] + step * one[2], two[0], where)


SHAPES = [
    [(1, 2)], [(0, 0)], [(2, 2)], [(-1, 1), (2, 1)], [(1, -2), (1, 3)], [(0, 3), (2, -1)], [(0, 0), (1, 0)], [(-2, -1), (2, 3)],
    [(0, 0), (3, 1), (1, 2)], [(-1, 0), (2, -1), (2, 2)], [(0, 0), (2, 0), (2, 2), (0, 2)], [(0, 0), (1, 0), (0, 1)],
]
TEN = [(0, 0), (1, -2), (2, -3), (4, -4), (5, -4), (6, -3), (7, -1), (7, 0), (5, 3), (1, 2)]
# Fields with these lowest bottoms and lower periods.
SHORT = [
    ((4, [(-2, 1), (1, -6), (3, 0)], [1]), 1), ((4, [(-2, -2), (2, 0), (0, 1)], []), 2),
    ((6, [(-3, -6), (3, 6), (-1, 4)], [0, 1]), 1), ((6, [(-2, -6), (0, -12), (4, 3)], []), 2),
    ((6, [(-4, 0), (0, -4), (-1, 1)], [2]), 3), ((8, [(-10, -7), (-2, -1), (-2, 0)], []), 4),
    ((9, [(-8, -1), (1, -10), (4, -4)], [1]), 1), ((10, [(0, 4), (2, 3), (0, 14)], [1]), 5),
    ((12, [(1, -5), (6, -3), (3, 3)], []), 4), ((12, [(-2, 2), (0, -5), (2, 10)], [0, 1]), 6),
    ((30, [(-6, -4), (-4, -29), (0, -19)], [1, 2]), 15),
]


def lean_field(bottom):
    """A field with this lowest bottom and the period 1."""
    return [(0, 0), (bottom * bottom, 0), (bottom, bottom - 1)]


def small_fences():
    """Points, stretches and fields, with no side, some sides and all sides open, over many bottoms."""
    fences = []
    for number, corners in enumerate(SHAPES):
        for bottom in (1, 2, 3, 4 + number % 3):
            choices = all_sides(bottom, corners)
            fences.extend(choices if bottom == 2 else [choices[0], choices[len(choices) // 2], choices[-1]])
    fences.extend(fence for bottom in (2, 3) for fence in all_sides(bottom, lean_field(bottom)))
    fences.extend(some_fences(61, 40, 3, (1, 2, 3, 4, 5, 6), (1, 2, 2, 3, 3, 4, 6)))
    # Over a bottom that is not the lowest one.
    fences.extend((bottom, [(2 * x, 2 * y) for x, y in corners], []) for bottom in (2, 4, 6) for corners in SHAPES)
    fences.extend((bottom, TEN, sides) for bottom in (2, 3) for sides in ([], [0, 1, 5], list(range(10))))
    fences.extend(fence for fence, _ in SHORT[:-1])
    return [fence for number, fence in enumerate(fences) if fence not in fences[:number]]


def steep_fences():
    """Small fences over the greatest bottoms."""
    corners = ([(7, 3)], [(0, 0)], [(1, 5), (4, 5)], [(0, 1), (3, 5)], [(-1, 0), (1, -1), (0, 2)], [(0, 0), (5, 0), (0, 4)])
    fences = []
    for bottom in (29, 30):
        for shape in corners:
            choices = all_sides(bottom, shape)
            fences.extend([choices[0], choices[len(choices) // 2], choices[-1]])
    fences.append(SHORT[-1][0])
    return [fence for number, fence in enumerate(fences) if fence not in fences[:number]]


SMALL = small_fences()
STEEP = steep_fences()
