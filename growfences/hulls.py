"""The convex hull of all stakes that belong to a grown fence."""

from growfences.checks import MOST_CORNERS, check_fence, check_size, is_corner
from growfences.errors import Impossible
from growfences.lattice import greatest_to, least_from
from growfences.pieces import ends_of, fence_pieces
from growfences.plane import convex_hull

MOST_ROWS = 400


def rows_of(fence, size):
    """The integers from the least y of the grown corners to the greatest one, as a list."""
    bottom, corners, _ = fence
    heights = [y for _, y in corners]
    first = least_from(size * min(heights), bottom, False)
    last = greatest_to(size * max(heights), bottom, False)
    if last - first >= MOST_ROWS:
        raise Impossible("the grown fence has more than 400 rows")
    return list(range(first, last + 1))


def stake_hull(fence, size):
    """The corners of the convex hull of all stakes that belong to a grown fence."""
    check_fence(fence)
    check_size(size)
    rows = rows_of(fence, size)
    pieces = fence_pieces(fence, size)
    stakes = []
    for row in rows:
        ends = ends_of(pieces, row)
        if ends is not None:
            stakes.extend([(ends[0], row), (ends[1], row)])
    return convex_hull(stakes)


def inner_fence(fence, size):
    """The closed fence over the bottom 1 that is this hull, None if there are no stakes."""
    corners = stake_hull(fence, size)
    if corners == []:
        return None
    if len(corners) > MOST_CORNERS:
        raise Impossible("the hull has more than 10 corners")
    if not all([is_corner(corner) for corner in corners]):
        raise Impossible("a corner of the hull is out of range")
    return (1, corners, [])
