"""The rule that the counts of a fence follow: a row of a square, a linear part and a constant for each remainder."""

from growfences.checks import check_closed, check_counts, check_fence, check_rule, check_rule_size
from growfences.courses import fence_course, first_course, least_course, parabolas_of, period_of
from growfences.lattice import fraction_of
from growfences.lines import corner_size, line_size
from growfences.plane import next_corner


def row_at(parabola, size, period):
    """The row of a size and of those that follow it by periods, told by their parabola."""
    # The value at n is half of that of the parabola at (n - size) / period.
    square, linear, constant = parabola
    bottom = 2 * period * period
    return (
        fraction_of(square, bottom),
        fraction_of(linear * period - 2 * square * size, bottom),
        fraction_of((square * size - linear * period) * size + constant * period * period, bottom),
    )


def rule_of(course):
    """The rule that a course follows."""
    period = period_of(course)
    rows = [row_at(parabola, start + 1, period) for start, parabola in enumerate(parabolas_of(course))]
    # The sizes begin with 1, the remainders with 0.
    return rows[-1:] + rows[:-1]


def repeat_of(values):
    """The least number of values behind which a list, told again and again, repeats."""
    return min([many for many in range(1, len(values) + 1) if values[many:] + values[:many] == values])


def counting_rule(fence):
    """The rule of a fence."""
    check_fence(fence)
    return rule_of(fence_course(fence))


def rule_period(fence):
    """The period of a fence: the number of the rows of its rule."""
    check_fence(fence)
    return period_of(fence_course(fence))


def part_periods(fence):
    """The numbers of rows behind which the squares, the linear parts and the constants of its rule repeat."""
    rule = counting_rule(fence)
    return tuple([repeat_of([row[part] for row in rule]) for part in range(3)])


def rule_count(rule, size):
    """The value of a rule at any integer, a fraction."""
    check_rule(rule)
    check_rule_size(size)
    top, bottom = 0, 1
    for part_top, part_bottom in rule[size % len(rule)]:
        top = top * size * part_bottom + part_top * bottom
        bottom *= part_bottom
    return fraction_of(top, bottom)


def side_sizes(fence):
    """For each side the least size at which there is a stake on its line; for a stretch, at which an end is one."""
    check_fence(fence)
    bottom, corners, _ = fence
    if len(corners) == 1:
        return []
    if len(corners) == 2:
        return [corner_size(bottom, corner) for corner in corners]
    return [line_size(bottom, corner, next_corner(corners, side)) for side, corner in enumerate(corners)]


def rule_through(counts):
    """The rule with the fewest rows that has these values at the sizes from 1 on."""
    check_counts(counts)
    return rule_of(least_course(counts))


def series_row(fence):
    """The numbers from the constant one on into which the series of the counts of a closed fence is packed."""
    check_closed(fence)
    course = first_course(fence)
    bottom, times = period_of(course), min(len(fence[1]), 3)
    row = ([1] + course)[:times * bottom]
    for _ in range(times):
        row = [term - other for term, other in zip(row, [0] * bottom + row)]
    return row
