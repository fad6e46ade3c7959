"""Courses: the values at the first sizes, which tell those at all further ones.

A course is a list of 3 * p integers, the values at the sizes from 1 to 3 * p of what follows a
rule with p rows: three values of a row tell the whole row.
"""

from growfences.fences import lowest_fence
from growfences.parabolas import double_through, spans_at, spans_below, sum_of, value_of
from growfences.pieces import fence_pieces, total_of


def period_of(course):
    """How many rows the rule of a course has."""
    return len(course) // 3


def parabolas_of(course):
    """For each size from 1 to the period p a parabola: its value at x is twice that at the size plus p * x."""
    period = period_of(course)
    return [
        double_through(zeroth, first, second)
        for zeroth, first, second in zip(course[:period], course[period:2 * period], course[2 * period:])
    ]


def values_to(course, last):
    """The values at the sizes from 1 to a last one."""
    parabolas = parabolas_of(course)
    period = period_of(course)
    return [value_of(parabolas[place % period], place // period) // 2 for place in range(last)]


def sum_to(course, last):
    """The sum of the values at the sizes from 1 to a last one; 0 if that is 0."""
    period = period_of(course)
    total = 0
    for start, parabola in enumerate(parabolas_of(course)):
        total += sum_of(parabola, (last - 1 - start) // period + 1)
    return total // 2


def least_course(course):
    """The course with the fewest rows that tells the same values at every size."""
    # Where fewer rows do, their number can be a divisor: so few rows are rows of the
    # longer course, too, and are these very ones if they have its values.
    period = period_of(course)
    for many in range(1, period):
        if period % many == 0 and values_to(course[:3 * many], len(course)) == course:
            return course[:3 * many]
    return list(course)


def first_course(fence):
    """The course of the counts of a fence with as many rows as its lowest bottom."""
    lowest = lowest_fence(fence)
    return [total_of(fence_pieces(lowest, size)) for size in range(1, 3 * lowest[0] + 1)]


def fence_course(fence):
    """The course of the counts of a fence with as many rows as its period."""
    return least_course(first_course(fence))


def runs_where(course, find_spans):
    """The runs, with the period as step, of the sizes in the spans that are found for the parabolas."""
    period = period_of(course)
    runs = []
    for start, parabola in enumerate(parabolas_of(course)):
        for first, last in find_spans(parabola):
            many = None if last is None else last - first + 1
            runs.append((start + 1 + period * first, period, many))
    return sorted(runs, key=lambda run: run[0])


def runs_below(course):
    """The runs, with the period as step, of the sizes at which the value is below 0."""
    return runs_where(course, spans_below)


def runs_at(course):
    """The runs, with the period as step, of the sizes at which the value is 0."""
    return runs_where(course, spans_at)


def first_of(runs):
    """The least size in ascending runs, None if there is none."""
    return runs[0][0] if runs else None
