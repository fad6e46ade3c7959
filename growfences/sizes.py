"""The sizes at which a fence has some count, and its counts added up."""

from growfences.checks import check_fence, check_number, check_size
from growfences.courses import fence_course, first_of, runs_at, runs_below, sum_to


def sizes_with(fence, number):
    """The runs of all sizes at which the count is a number."""
    check_fence(fence)
    check_number(number)
    return runs_at([count - number for count in fence_course(fence)])


def first_size(fence, number):
    """The least size at which the count is at least a number, None if there is none."""
    check_fence(fence)
    check_number(number)
    return first_of(runs_below([number - 1 - count for count in fence_course(fence)]))


def total_count(fence, first, last):
    """The sum of the counts at the sizes from one to another one."""
    check_fence(fence)
    check_size(first)
    check_size(last)
    if last < first:
        return 0
    course = fence_course(fence)
    return sum_to(course, last) - sum_to(course, first - 1)
