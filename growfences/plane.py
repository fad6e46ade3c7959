"""Points of the plane: which way they turn, outlines and convex hulls."""


def turn(one, two, three):
    """Above 0 if the way over three points turns left, 0 if they are on one line."""
    return (two[0] - one[0]) * (three[1] - one[1]) - (two[1] - one[1]) * (three[0] - one[0])


def next_corner(corners, side):
    """The corner to which a side of a field leads."""
    return corners[(side + 1) % len(corners)]


def is_left_of_side(corners, side):
    """Whether all corners that are not on a side are strictly left of it."""
    tail, head = corners[side], next_corner(corners, side)
    left = [corner for corner in corners if turn(tail, head, corner) > 0]
    return len(left) == len(corners) - 2


def is_outline(corners):
    """Whether three corners or more are those of a field, in its sequence.

    Left turns alone are not enough: a star goes round twice and turns left everywhere.
    """
    if min(corners) != corners[0]:
        return False
    return all([is_left_of_side(corners, side) for side in range(len(corners))])


def half_hull(points):
    """The left-turning way from the first point to the last one, all others left of it or on it."""
    way = []
    for point in points:
        while len(way) > 1 and turn(way[-2], way[-1], point) <= 0:
            way.pop()
        way.append(point)
    return way


def convex_hull(points):
    """The corners of the convex hull of points, counterclockwise, the least one first."""
    ascending = sorted(set(points))
    if len(ascending) == 1:
        return ascending
    return half_hull(ascending)[:-1] + half_hull(ascending[::-1])[:-1]
