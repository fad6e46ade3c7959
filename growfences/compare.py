"""At which sizes two fences hold as many stakes, and at which one holds fewer."""

from math import lcm

from growfences.checks import check_fence
from growfences.courses import fence_course, first_of, period_of, runs_at, runs_below, values_to


def lead_course(fence, other):
    """The course of the counts of a fence less those of another one, with both periods in its own."""
    check_fence(fence)
    check_fence(other)
    one, two = fence_course(fence), fence_course(other)
    last = 3 * lcm(period_of(one), period_of(two))
    return [count - less for count, less in zip(values_to(one, last), values_to(two, last))]


def are_alike(fence, other):
    """Whether the counts of two fences are equal at every size."""
    return not any(lead_course(fence, other))


def parting_size(fence, other):
    """The least size at which the counts of two fences are not equal, None if there is none."""
    for size, lead in enumerate(lead_course(fence, other), start=1):
        if lead != 0:
            return size
    return None


def alike_sizes(fence, other):
    """The runs of all sizes at which the counts of two fences are equal."""
    return runs_at(lead_course(fence, other))


def first_fewer(fence, other):
    """The least size at which the count of a fence is lower than that of another one, None if there is none."""
    return first_of(runs_below(lead_course(fence, other)))


def fewer_sizes(fence, other):
    """The runs of all sizes at which the count of a fence is lower than that of another one."""
    return runs_below(lead_course(fence, other))
