"""Plain counts for small fences: each place of a box, side by side, by the words of the document."""

import random
from fractions import Fraction


def turn(one, two, three):
    return (two[0] - one[0]) * (three[1] - one[1]) - (two[1] - one[1]) * (three[0] - one[0])


def grown_corners(fence, size):
    """The corners of a grown fence, all numbers times its bottom, so that they are integers."""
    return [(size * x, size * y) for x, y in fence[1]]


def spread(fence, point):
    """A point of the plane, both numbers times the bottom of a fence."""
    return (fence[0] * point[0], fence[0] * point[1])


def lies_between(one, two, point):
    """Whether a point lies on the stretch from one point to another one."""
    if turn(one, two, point) != 0:
        return False
    x_fits = min(one[0], two[0]) <= point[0] <= max(one[0], two[0])
    return x_fits and min(one[1], two[1]) <= point[1] <= max(one[1], two[1])


def plain_holds(fence, size, point):
    """Whether any point of the plane belongs to a grown fence."""
    corners, sides, point = grown_corners(fence, size), fence[2], spread(fence, point)
    if len(corners) == 1:
        return point == corners[0]
    if len(corners) == 2:
        return lies_between(corners[0], corners[1], point) and not any(point == corners[side] for side in sides)
    ways = [(corners[side], corners[(side + 1) % len(corners)]) for side in range(len(corners))]
    if any(turn(tail, head, point) < 0 for tail, head in ways):
        return False
    return not any(lies_between(*ways[side], point) for side in sides)


def box_places(fence, size):
    """All stakes of a box around a grown fence, ascending."""
    bottom, corners = fence[0], grown_corners(fence, size)
    columns = range(min(x for x, _ in corners) // bottom - 1, max(x for x, _ in corners) // bottom + 3)
    rows = range(min(y for _, y in corners) // bottom - 1, max(y for _, y in corners) // bottom + 3)
    return [(x, y) for y in rows for x in columns]


def plain_stakes(fence, size):
    """All stakes that belong to a grown fence, ascending."""
    return [place for place in box_places(fence, size) if plain_holds(fence, size, place)]


def plain_side(fence, side, size):
    """All stakes on a side of a grown fence, both ends too."""
    corners = grown_corners(fence, size)
    if len(corners) == 2:
        return [place for place in box_places(fence, size) if spread(fence, place) == corners[side]]
    tail, head = corners[side], corners[(side + 1) % len(corners)]
    return [place for place in box_places(fence, size) if lies_between(tail, head, spread(fence, place))]


def plain_hull(points):
    """The corners of a hull: the least point, then each time the one with all others on its left."""
    points = sorted(set(points))
    corners = points[:1]
    while len(points) > 1:
        here, best = corners[-1], None
        for point in points:
            if point == here:
                continue
            side = 0 if best is None else turn(here, best, point)
            farther = best is not None and side == 0 and lies_between(here, point, best)
            if best is None or side < 0 or farther:
                best = point
        if best == corners[0]:
            break
        corners.append(best)
    return corners


def plain_sides(corners):
    return [] if len(corners) == 1 else list(range(len(corners)))


def some_fences(seed, many, reach, bottoms, points):
    """Fences of all kinds, the same ones in each run."""
    source = random.Random(seed)
    fences = []
    while len(fences) < many:
        chosen = [(source.randint(-reach, reach), source.randint(-reach, reach)) for _ in range(source.choice(points))]
        corners = plain_hull(chosen)
        if len(corners) > 10:
            continue
        sides = [side for side in plain_sides(corners) if source.random() < 0.4]
        fences.append((source.choice(bottoms), corners, sides))
    return fences


def all_sides(bottom, corners):
    """The fences with these corners, with each choice of open sides."""
    sides = plain_sides(corners)
    choices = [[side for side in sides if chosen >> side & 1] for chosen in range(1 << len(sides))]
    return [(bottom, list(corners), choice) for choice in choices]


def led(fence, move):
    """A fence led by a move: the corners in their sequence, the same sides open."""
    bottom, corners, sides = fence
    a, b, c, d, e, f = move
    spots = [(a * x + b * y + e * bottom, c * x + d * y + f * bottom) for x, y in corners]
    if len(spots) == 1:
        return (bottom, spots, [])
    if len(spots) == 2:
        ordered = sorted(spots)
        return (bottom, ordered, sorted(ordered.index(spots[side]) for side in sides))
    ways = [(spots[side], spots[(side + 1) % len(spots)]) for side in range(len(spots))]
    opened = [ways[side] for side in sides]
    if a * d - b * c < 0:
        spots = spots[::-1]
        opened = [(head, tail) for tail, head in opened]
    least = spots.index(min(spots))
    spots = spots[least:] + spots[:least]
    ways = [(spots[side], spots[(side + 1) % len(spots)]) for side in range(len(spots))]
    return (bottom, spots, sorted(ways.index(way) for way in opened))


def value_through(values, at):
    """The value at a place of the parabola through three pairs (place, value)."""
    total = Fraction(0)
    for place, value in values:
        part = Fraction(value)
        for other, _ in values:
            if other != place:
                part *= Fraction(at - other, place - other)
        total += part
    return total


def count_by_rule(fence, size):
    """The count at any size, from plain counts at three small sizes with the same remainder by the bottom."""
    bottom = fence[0]
    first = size % bottom or bottom
    places = [first, first + bottom, first + 2 * bottom]
    return value_through([(place, len(plain_stakes(fence, place))) for place in places], size)
