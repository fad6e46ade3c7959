"""At which sizes a fence has a stake at all."""

from growfences.checks import check_fence, check_size
from growfences.courses import first_course
from growfences.lines import corner_size, line_size
from growfences.pieces import fence_pieces, total_of


def step_of(fence):
    """The greatest common divisor of all sizes with a stake."""
    bottom, corners, _ = fence
    if len(corners) == 1:
        return corner_size(bottom, corners[0])
    if len(corners) == 2:
        # A long stretch has a stake whenever its line has one.
        return line_size(bottom, corners[0], corners[1])
    return 1


def empties_of(fence, step):
    """The multiples of the step at which there is no stake."""
    # From three times the lowest bottom on, each multiple of the step has a stake.
    return [size for size, count in enumerate(first_course(fence), start=1) if size % step == 0 and count == 0]


def size_step(fence):
    """The step of a fence: the greatest common divisor of all sizes with a stake."""
    check_fence(fence)
    return step_of(fence)


def has_stakes(fence, size):
    """Whether the count of a fence at a size is above 0."""
    check_fence(fence)
    check_size(size)
    return total_of(fence_pieces(fence, size)) > 0


def stake_sizes(fence):
    """The sizes with a stake that are no sum of two such sizes."""
    check_fence(fence)
    step, course = step_of(fence), first_course(fence)
    last = len(course)
    filled = [size for size, count in enumerate(course, start=1) if count > 0]
    # From `last` on each multiple of the step has a stake: a greater one than twice
    # `last` is the sum of `last` and another one.
    filled += [size for size in range(last + 1, 2 * last + 1) if size % step == 0]
    sums = {one + two for one in filled for two in filled}
    return [size for size in filled if size not in sums]


def empty_sizes(fence):
    """The multiples of the step of a fence, from the step on, at which it has no stake."""
    check_fence(fence)
    return empties_of(fence, step_of(fence))


def last_empty(fence):
    """The last multiple of the step of a fence at which it has no stake, 0 if there is none."""
    check_fence(fence)
    return max(empties_of(fence, step_of(fence)), default=0)
