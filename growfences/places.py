"""Which stakes a grown fence holds: by their indexes, and by their rows."""

from growfences.checks import check_fence, check_row, check_size, is_integer, is_point
from growfences.errors import InvalidNumber, InvalidPoint
from growfences.pieces import ends_of, fence_pieces, holds_point, stake_of, total_of, total_to


def nth_stake(fence, size, index):
    """The stake with an index."""
    check_fence(fence)
    check_size(size)
    if not is_integer(index) or index < 0:
        raise InvalidNumber("an index is an integer from 0 on")
    stake = stake_of(fence_pieces(fence, size), index)
    if stake is None:
        raise InvalidNumber("the fence has no stake with this index")
    return stake


def stake_index(fence, size, point):
    """The index of a stake."""
    check_fence(fence)
    check_size(size)
    pieces = fence_pieces(fence, size)
    if not is_point(point) or not holds_point(pieces, point):
        raise InvalidPoint("this is no stake of the fence")
    x, y = point
    return total_to(pieces, y - 1) + x - ends_of(pieces, y)[0]


def stake_rows(fence, size):
    """The least y and the greatest y of all stakes, None if there are none."""
    check_fence(fence)
    check_size(size)
    pieces = fence_pieces(fence, size)
    total = total_of(pieces)
    if total == 0:
        return None
    return (stake_of(pieces, 0)[1], stake_of(pieces, total - 1)[1])


def row_stakes(fence, size, row):
    """The least x and the greatest x of the stakes with y = row, None if there are none."""
    check_fence(fence)
    check_size(size)
    check_row(row)
    return ends_of(fence_pieces(fence, size), row)
