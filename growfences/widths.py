"""How wide a fence is in a direction, how many lines meet it, and in which directions it is thinnest."""

from growfences.checks import check_direction, check_fence, check_field, check_size
from growfences.lattice import fraction_of, greatest_to, least_from


def ends_along(corners, direction):
    """The least a * x + b * y of corners for a direction (a, b), and the greatest one."""
    a, b = direction
    values = [a * x + b * y for x, y in corners]
    return (min(values), max(values))


def spread_along(corners, direction):
    """The width of corners in a direction, as if the bottom were 1."""
    least, greatest = ends_along(corners, direction)
    return greatest - least


def fence_width(fence, direction):
    """The width of a fence in a direction, a fraction."""
    check_fence(fence)
    check_direction(direction)
    return fraction_of(spread_along(fence[1], direction), fence[0])


def line_number(fence, size, direction):
    """At how many integers k the line a * x + b * y = k meets the closed fence grown to a size."""
    check_fence(fence)
    check_size(size)
    check_direction(direction)
    least, greatest = ends_along(fence[1], direction)
    return greatest_to(size * greatest, fence[0], False) - least_from(size * least, fence[0], False) + 1


def shifted(wide, thin, times):
    """A direction and some times another one."""
    return (wide[0] + times * thin[0], wide[1] + times * thin[1])


def thinnest_shift(corners, wide, thin):
    """The thinnest direction that is one direction and any times another one."""
    # The width is convex in the times, and behind these bounds above that at 0.
    high = 2 * spread_along(corners, wide) // spread_along(corners, thin) + 1
    low = -high
    while low < high:
        middle = (low + high) // 2
        here = spread_along(corners, shifted(wide, thin, middle))
        if spread_along(corners, shifted(wide, thin, middle + 1)) >= here:
            high = middle
        else:
            low = middle + 1
    return shifted(wide, thin, low)


def reduced_pair(corners):
    """Two directions that make all others; the first is not wider than the second, nor this than sum or difference."""
    thin, wide = (1, 0), (0, 1)
    while True:
        wide = thinnest_shift(corners, wide, thin)
        if spread_along(corners, wide) >= spread_along(corners, thin):
            return (thin, wide)
        thin, wide = wide, thin


def thin_directions(fence):
    """The least width of a field in any direction, and all directions that have it, one of two opposite ones."""
    check_fence(fence)
    check_field(fence)
    corners = fence[1]
    thin, wide = reduced_pair(corners)
    least = spread_along(corners, thin)
    # As the width is convex, both numbers of a direction as wide as `thin` are at most 2
    # in terms of such a pair.
    directions = [
        shifted((one * thin[0], one * thin[1]), wide, two)
        for one in range(-2, 3) for two in range(-2, 3)
    ]
    found = [direction for direction in directions if direction > (0, 0) and spread_along(corners, direction) == least]
    return (fraction_of(least, fence[0]), sorted(found))
