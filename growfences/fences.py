"""Fences: what they are, and those that are made from other ones."""

from math import gcd

from growfences.checks import MOST_CORNERS, check_bottom, check_fence, check_points, side_total
from growfences.errors import Impossible, InvalidFence
from growfences.lattice import fraction_of
from growfences.plane import convex_hull, next_corner


def is_fence(value):
    """Whether any value is a fence."""
    try:
        check_fence(value)
    except InvalidFence:
        return False
    return True


def fence_of(bottom, points):
    """The closed fence that is the convex hull of points over a bottom."""
    check_bottom(bottom)
    check_points(points)
    corners = convex_hull(points)
    if len(corners) > MOST_CORNERS:
        raise Impossible("the hull has more than 10 corners")
    return (bottom, corners, [])


def copied_fence(fence):
    """An equal fence with lists of its own."""
    bottom, corners, sides = fence
    return (bottom, list(corners), list(sides))


def lowered_fence(fence):
    """The same fence with its lowest bottom, whatever the limits of fences are."""
    bottom, corners, sides = fence
    part = bottom
    for x, y in corners:
        part = gcd(part, x, y)
    return (bottom // part, [(x // part, y // part) for x, y in corners], list(sides))


def lowest_fence(fence):
    """The same fence with its lowest bottom."""
    check_fence(fence)
    return lowered_fence(fence)


def closed_fence(fence):
    """The fence with the same corners and no open side."""
    check_fence(fence)
    bottom, corners, _ = fence
    return (bottom, list(corners), [])


def shut_fence(fence):
    """The fence with the same corners and all sides open."""
    check_fence(fence)
    bottom, corners, _ = fence
    return (bottom, list(corners), list(range(side_total(corners))))


def turned_fence(fence):
    """The fence with the same corners and the other sides open."""
    check_fence(fence)
    bottom, corners, sides = fence
    return (bottom, list(corners), [side for side in range(side_total(corners)) if side not in sides])


def are_same(fence, other):
    """Whether the same points of the plane belong to both fences."""
    # A fence is never empty, and neither a corner nor an open side can be told in
    # two ways over the lowest bottom: so equal points mean equal tuples.
    return lowest_fence(fence) == lowest_fence(other)


def fence_kind(fence):
    """The kind of a fence: "point", "stretch" or "field"."""
    check_fence(fence)
    corners = fence[1]
    if len(corners) == 1:
        return "point"
    if len(corners) == 2:
        return "stretch"
    return "field"


def fence_area(fence):
    """The area of a fence, a fraction."""
    check_fence(fence)
    bottom, corners, _ = fence
    top = 0
    for side, (x, y) in enumerate(corners):
        next_x, next_y = next_corner(corners, side)
        top += x * next_y - y * next_x
    return fraction_of(top, 2 * bottom * bottom)
