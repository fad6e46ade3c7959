"""Closed fields cut along a line into a low part, which has the line, and a high part, which has not.

A line is (a, b, c). The level of a point is a * x + b * y - c: at most 0 in the low part.
"""

from math import lcm

from growfences.checks import check_closed, check_field, check_line, check_size
from growfences.errors import Impossible
from growfences.fences import is_fence, lowered_fence
from growfences.pieces import fence_pieces, total_of
from growfences.plane import convex_hull, next_corner


def levels_of(fence, line):
    """The levels of the corners of a fence, times its bottom."""
    bottom, corners, _ = fence
    a, b, c = line
    return [a * x + b * y - c * bottom for x, y in corners]


def crossing_point(bottom, tail, head):
    """The point of the level 0 on a side, for both ends as (corner, level); as a tuple (x, y, bottom)."""
    (x, y), level = tail
    (head_x, head_y), head_level = head
    # All three numbers can be below 0 at once, which makes no difference to the point.
    return (x * head_level - head_x * level, y * head_level - head_y * level, (head_level - level) * bottom)


def outline_of(fence, levels):
    """The corners (x, y, bottom) of the part of a field with a level of at most 0."""
    bottom, corners, _ = fence
    ends = list(zip(corners, levels))
    points = []
    for side, (corner, level) in enumerate(ends):
        head = next_corner(ends, side)
        if level <= 0:
            points.append((corner[0], corner[1], bottom))
        if level * head[1] < 0:
            points.append(crossing_point(bottom, (corner, level), head))
    return points


def fence_through(points):
    """The closed fence with these corners (x, y, bottom) over its lowest bottom, even beyond the limits of fences."""
    whole = 1
    for point in points:
        whole = lcm(whole, point[2])
    spots = [(x * (whole // bottom), y * (whole // bottom)) for x, y, bottom in points]
    return lowered_fence((whole, convex_hull(spots), []))


def low_part(fence, line):
    """The low part of a field, None if it has no points."""
    points = outline_of(fence, levels_of(fence, line))
    return fence_through(points) if points else None


def high_part(fence, line):
    """The high part of a field, None if it has no points."""
    levels = levels_of(fence, line)
    if max(levels) <= 0:
        return None
    bottom, corners, _ = fence_through(outline_of(fence, [-level for level in levels]))
    levels = levels_of((bottom, corners, []), line)
    sides = [side for side, level in enumerate(levels) if level == 0 and next_corner(levels, side) == 0]
    return (bottom, corners, sides)


def cut_fence(fence, line):
    """Both parts of a closed field, as fences over their lowest bottoms."""
    check_closed(fence)
    check_line(line)
    check_field(fence)
    low, high = low_part(fence, line), high_part(fence, line)
    if low is not None and len(low[1]) == 1:
        raise Impossible("the low part is one corner alone")
    for part in (low, high):
        if part is not None and not is_fence(part):
            raise Impossible("a part is no fence")
    return (low, high)


def cut_counts(fence, line, size):
    """The numbers of stakes of both parts, grown to a size."""
    check_closed(fence)
    check_line(line)
    check_size(size)
    check_field(fence)
    low = low_part(fence, line)
    many = 0 if low is None else total_of(fence_pieces(low, size))
    return (many, total_of(fence_pieces(fence, size)) - many)
