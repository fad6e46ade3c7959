"""How many stakes a grown fence holds: in all, on a side, in a row, below a row."""

from growfences.checks import check_fence, check_point, check_row, check_side, check_size
from growfences.pieces import ends_of, fence_pieces, holds_point, side_pieces, total_of, total_to


def stake_count(fence, size):
    """The number of stakes that belong to a fence grown to a size."""
    check_fence(fence)
    check_size(size)
    return total_of(fence_pieces(fence, size))


def side_count(fence, side, size):
    """The number of stakes on a side of the grown fence, both of its ends too."""
    check_fence(fence)
    check_side(side, fence[1])
    check_size(size)
    return total_of(side_pieces(fence, side, size))


def holds_stake(fence, size, point):
    """Whether a stake belongs to the grown fence."""
    check_fence(fence)
    check_size(size)
    check_point(point)
    return holds_point(fence_pieces(fence, size), point)


def row_count(fence, size, row):
    """How many stakes with y = row belong to the grown fence."""
    check_fence(fence)
    check_size(size)
    check_row(row)
    ends = ends_of(fence_pieces(fence, size), row)
    if ends is None:
        return 0
    return ends[1] - ends[0] + 1


def below_count(fence, size, row):
    """How many stakes with y at most row belong to the grown fence."""
    check_fence(fence)
    check_size(size)
    check_row(row)
    return total_to(fence_pieces(fence, size), row)
